import PyProof.Rows.All
import Wide.All
import OpenK.AllK
import Wide.FinOn
import HandS.ForMost
import HandS.Exc
import HandS.TryOnly
import HandS.ExcOwn
import HandS.WordsExc
import HandS.Lambda
import HandS.Wide
import HandS.Gcd
import HandS.IsInst
import HandS.ExcCtx
import HandS.FStr
import HandS.TupAny
import HandS.TupMul
import HandS.EndTab
import HandS.HotCalls
import HandS.ExcIs
import HandS.SuiteRaise
import HandS.EndOwn
import KE.KNestM
import HandS.EndBits
import HandS.Dict
import HandS.DictComp
import PyProof.StrOps2
import HandS.Zip
import HandS.Style
import KE.KMathG
import HandS.SortRule
import HandS.SortInts
import PyProof.P3Eq
import HandS.Iter
import KE.GoesZip
import KE.GoesMore
import KE.GoesEnum
import HandS.More
import KE.KUnpack
import HandS.Conv
import HandS.Flow
import KE.KDictDisplayH
import PySem.Challenge.RW_roundwaves_k10_whole_double_roundings
set_option Elab.async false
set_option linter.all false
set_option maxRecDepth 100000
set_option maxHeartbeats 2000000
/-! Data without addresses, over the hand layer: a value is data, what changes stands in a store by numbers. -/
namespace Dn
open PySem L2

inductive D where
  | non | bl (b : Bool) | int (i : Int) | str (s : Str) | tup (ds : List D) | ref (n : Nat) | ty (n : String) | kl (ds : List D) | ob (a : Addr)
inductive Cell where
  | lst (ds : List D) | dct (kvs : List (Key × D))
  | dtt (kvs : List (List Int × D)) | obj (C : Addr) (fs : List (Str × D))
abbrev Sto := List Cell
abbrev Ev := List (Option D)

/-- a result: a value and the store; an exception of the n-th class; nothing is known -/
inductive R (α : Type) where
  | ok (a : α) (st : Sto) | er (n : Nat) (st : Sto) | no
def R.bind {α β : Type} (r : R α) (f : α → Sto → R β) : R β := match r with
  | .ok a st => f a st
  | .er n st => .er n st
  | .no => .no
@[simp] theorem R.bind_ok {α β : Type} (a : α) (st : Sto) (f : α → Sto → R β) : (R.ok a st).bind f = f a st := rfl
@[simp] theorem R.bind_er {α β : Type} (n : Nat) (st : Sto) (f : α → Sto → R β) : (R.er n st).bind f = .er n st := rfl
@[simp] theorem R.bind_no {α β : Type} (f : α → Sto → R β) : (R.no : R α).bind f = .no := rfl

/-- a list that never changes: locked, or the module's own -/
def SqF (K : PySem.W.Frag) (H : Hp) (ρ : List Addr) (a : Addr) (xs : List V) : Prop :=
  ((∃ o, H a = some (.frz o (.lst xs))) ∨ (H a = some (.lst xs) ∧ a ∉ ρ)) ∨
    ∃ (o : Obj) (its : Array Value) (n : Nat), K.lookup a = some o ∧ o.cls = .type "list" ∧ o.dict = none ∧ o.data = .seq its n ∧ its.size ≤ sizeLine ∧ Vals xs its.toList
theorem SqF.l {K : PySem.W.Frag} {H : Hp} {ρ : List Addr} {a : Addr} {xs : List V} (h : SqF K H ρ a xs) : SqL K H a xs := by
  rcases h with (⟨o, h⟩ | ⟨h, _⟩) | h
  · exact .inl (.inr ⟨o, h⟩)
  · exact .inl (.inl h)
  · exact .inr h
theorem SqF.cut {K : PySem.W.Frag} {H : Hp} {ρ l : List Addr} {a : Addr} {xs : List V} (h : SqF K H (ρ ++ l) a xs) : SqF K H ρ a xs := by
  rcases h with (h | ⟨h, n⟩) | h
  · exact .inl (.inl h)
  · exact .inl (.inr ⟨h, fun z => n (List.mem_append_left _ z)⟩)
  · exact .inr h
mutual
inductive EV (K : PySem.W.Frag) (H : Hp) (ρ : List Addr) : D → V → Prop
  | non : EV K H ρ .non .non
  | bl (b : Bool) : EV K H ρ (.bl b) (.bl b)
  | int (i : Int) : EV K H ρ (.int i) (.int i)
  | str (s : Str) : EV K H ρ (.str s) (.str s)
  | tup {a : Addr} {ds : List D} {vs : List V} : SqT K H a vs → EVs K H ρ ds vs → EV K H ρ (.tup ds) (.ref a)
  | ref {n : Nat} {a : Addr} : ρ[n]? = some a → EV K H ρ (.ref n) (.ref a)
  | ty (n : String) : EV K H ρ (.ty n) (.ty n)
  | kl {a : Addr} {ds : List D} {vs : List V} : SqF K H ρ a vs → EVs K H ρ ds vs → EV K H ρ (.kl ds) (.ref a)
  | ob (a : Addr) : EV K H ρ (.ob a) (.ref a)
inductive EVs (K : PySem.W.Frag) (H : Hp) (ρ : List Addr) : List D → List V → Prop
  | nil : EVs K H ρ [] []
  | cons {d : D} {v : V} {ds : List D} {vs : List V} : EV K H ρ d v → EVs K H ρ ds vs → EVs K H ρ (d :: ds) (v :: vs)
end
/-- a dict whose keys are tuples of ints, wherever these stand: its entries, the keys' places, its values -/
def TD (a : Addr) (ws : List (List Int × Addr × V)) (h : Heap) : Prop :=
  ws.length ≤ sizeLine ∧ (a == sysModules) = false ∧ (ws.map (·.1)).Nodup ∧ ∃ xs : List (List Int × Addr × Value), Paired (fun (p : List Int × Addr × V) (q : List Int × Addr × Value) => p.1 = q.1 ∧ p.2.1 = q.2.1 ∧ RelV p.2.2 q.2.2) ws xs ∧
    ∃ o es ep, h.get? a = some o ∧ o.ExactDict ∧ o.data = .dict es ep ∧ ∀ (P : Program) (w : World), es.toList = xs.map (entryOfKey (tupleKind (intKind P w)))
abbrev TDO (a : Addr) (ws : List (List Int × Addr × V)) : HO := .ext (TD a ws)
def EC (K : PySem.W.Frag) (H : Hp) (ρ : List Addr) (a : Addr) : Cell → Prop
  | .lst ds => ∃ vs, H a = some (.lst vs) ∧ EVs K H ρ ds vs
  | .dct kvs => ∃ vvs : List (Key × V), H a = some (.dK vvs) ∧ kvs.map (·.1) = vvs.map (·.1) ∧ EVs K H ρ (kvs.map (·.2)) (vvs.map (·.2))
  | .dtt kvs => ∃ ws : List (List Int × Addr × V), H a = some (TDO a ws) ∧ kvs.map (·.1) = ws.map (·.1) ∧ (∀ x ∈ ws, SqT K H x.2.1 (x.1.map V.int)) ∧ EVs K H ρ (kvs.map (·.2)) (ws.map (·.2.2))
  | .obj C fs => ∃ (dx : Addr) (vs : List (Str × V)), H a = some (.ins C dx vs) ∧ fs.map (·.1) = vs.map (·.1) ∧ EVs K H ρ (fs.map (·.2)) (vs.map (·.2))
structure ES (K : PySem.W.Frag) (T : List (Addr × Str)) (H : Hp) (ρ : List Addr) (st : Sto) : Prop where
  tabs : LamX.Tabs T H
  len : ρ.length = st.length
  nd : ρ.Nodup
  cell : ∀ (i : Nat) (a : Addr) (c : Cell), ρ[i]? = some a → st[i]? = some c → EC K H ρ a c

/-- what a step leaves: only the store's objects have changed; the store has grown at its end -/
structure Fr (H : Hp) (ρ : List Addr) (H' : Hp) (ρ' : List Addr) : Prop where
  pre : ∃ l, ρ' = ρ ++ l
  keep : ∀ a o, H a = some o → a ∉ ρ → (∀ ps, o ≠ .tbl ps) → H' a = some o
  tup : ∀ a xs, H a = some (.tup xs) → H' a = some (.tup xs)
  frz : ∀ a o u, H a = some (.frz o u) → H' a = some (.frz o u)
  new : ∀ a, a ∈ ρ' → a ∉ ρ → ∀ o, H a = some o → ∃ ps, o = .tbl ps

theorem Fr.refl (H : Hp) (ρ : List Addr) : Fr H ρ H ρ := ⟨⟨[], (List.append_nil _).symm⟩, fun _ _ e _ _ => e, fun _ _ e => e, fun _ _ _ e => e, fun _ h n => absurd h n⟩
section
variable {K : PySem.W.Frag} {T : List (Addr × Str)} {H H' H1 H2 : Hp} {ρ ρ' ρ1 ρ2 : List Addr} {st st' : Sto} {a : Addr}
theorem Fr.sub (f : Fr H ρ H' ρ') (h : a ∈ ρ) : a ∈ ρ' := by
  obtain ⟨l, e⟩ := f.pre
  rw [e]
  exact List.mem_append_left _ h
theorem Fr.get (f : Fr H ρ H' ρ') {i : Nat} (h : ρ[i]? = some a) : ρ'[i]? = some a := by
  obtain ⟨l, e⟩ := f.pre
  have hl := (List.getElem?_eq_some_iff.mp h).1
  rw [e, List.getElem?_append_left hl]
  exact h
theorem Fr.trans (f : Fr H ρ H1 ρ1) (g : Fr H1 ρ1 H2 ρ2) : Fr H ρ H2 ρ2 where
  pre := by
    obtain ⟨l, e⟩ := f.pre
    obtain ⟨m, e'⟩ := g.pre
    exact ⟨l ++ m, by rw [e', e, List.append_assoc]⟩
  keep := fun a o h n t => g.keep a o (f.keep a o h n t) (fun hm => by
    obtain ⟨ps, z⟩ := f.new a hm n o h
    exact t ps z) t
  tup := fun a xs h => g.tup a xs (f.tup a xs h)
  frz := fun a o u h => g.frz a o u (f.frz a o u h)
  new := fun a h n o ho => by
    by_cases hm : a ∈ ρ1
    · exact f.new a hm n o ho
    · by_cases ht : ∃ ps, o = .tbl ps
      · exact ht
      · exact g.new a h hm o (f.keep a o ho n fun ps e => ht ⟨ps, e⟩)
theorem Fr.rd (f : Fr H ρ H' ρ') {xs : List V} (h : SqT K H a xs) : SqT K H' a xs := by
  rcases h with (h | ⟨o, h⟩) | h
  · exact .inl (.inl (f.tup _ _ h))
  · exact .inl (.inr ⟨o, f.frz _ _ _ h⟩)
  · exact .inr h
theorem Fr.rf (f : Fr H ρ H' ρ') {xs : List V} (h : SqF K H ρ a xs) : SqF K H' ρ' a xs := by
  rcases h with (⟨o, h⟩ | ⟨h, n⟩) | h
  · exact .inl (.inl ⟨o, f.frz _ _ _ h⟩)
  · exact .inl (.inr ⟨f.keep _ _ h n (fun _ z => nomatch z), fun z => by
      obtain ⟨ps, e⟩ := f.new a z n _ h
      cases e⟩)
  · exact .inr h
mutual
theorem EV.mono (f : Fr H ρ H' ρ') : ∀ {d : D} {v : V}, EV K H ρ d v → EV K H' ρ' d v
  | _, _, .non => .non
  | _, _, .bl b => .bl b
  | _, _, .int i => .int i
  | _, _, .str s => .str s
  | _, _, .tup h r => .tup (f.rd h) (EVs.mono f r)
  | _, _, .ref h => .ref (f.get h)
  | _, _, .ty n => .ty n
  | _, _, .kl h r => .kl (f.rf h) (EVs.mono f r)
  | _, _, .ob a => .ob a
theorem EVs.mono (f : Fr H ρ H' ρ') : ∀ {ds : List D} {vs : List V}, EVs K H ρ ds vs → EVs K H' ρ' ds vs
  | _, _, .nil => .nil
  | _, _, .cons h r => .cons (EV.mono f h) (EVs.mono f r)
end
theorem EVs.length : ∀ {ds : List D} {vs : List V}, EVs K H ρ ds vs → ds.length = vs.length
  | _, _, .nil => rfl
  | _, _, .cons _ r => congrArg Nat.succ (EVs.length r)
theorem EVs.get : ∀ {ds : List D} {vs : List V} {i : Nat} {d : D}, EVs K H ρ ds vs → ds[i]? = some d → ∃ v, vs[i]? = some v ∧ EV K H ρ d v
  | _, _, _, _, .nil, e => by simp at e
  | _, _, 0, _, .cons h _, e => by simp at e; subst e; exact ⟨_, rfl, h⟩
  | _, _, i + 1, d, .cons _ r, e => by
    obtain ⟨v, h1, h2⟩ := EVs.get (i := i) (d := d) r (by simpa using e)
    exact ⟨v, by simpa using h1, h2⟩
theorem EVs.getV : ∀ {ds : List D} {vs : List V} {i : Nat} {v : V}, EVs K H ρ ds vs → vs[i]? = some v → ∃ d, ds[i]? = some d ∧ EV K H ρ d v
  | _, _, _, _, .nil, e => by simp at e
  | _, _, 0, _, .cons h _, e => by simp at e; subst e; exact ⟨_, rfl, h⟩
  | _, _, i + 1, d, .cons _ r, e => by
    obtain ⟨v, h1, h2⟩ := EVs.getV (i := i) r (by simpa using e)
    exact ⟨v, by simpa using h1, h2⟩
theorem EVs.append : ∀ {ds es : List D} {vs ws : List V}, EVs K H ρ ds vs → EVs K H ρ es ws → EVs K H ρ (ds ++ es) (vs ++ ws)
  | _, _, _, _, .nil, s => s
  | _, _, _, _, .cons h r, s => .cons h (EVs.append r s)
theorem EVs.take : ∀ {ds : List D} {vs : List V} (n : Nat), EVs K H ρ ds vs → EVs K H ρ (ds.take n) (vs.take n)
  | _, _, 0, _ => .nil
  | _, _, _ + 1, .nil => .nil
  | _, _, n + 1, .cons h r => .cons h (EVs.take n r)
theorem EVs.drop : ∀ {ds : List D} {vs : List V} (n : Nat), EVs K H ρ ds vs → EVs K H ρ (ds.drop n) (vs.drop n)
  | _, _, 0, r => r
  | _, _, _ + 1, .nil => .nil
  | _, _, n + 1, .cons _ r => EVs.drop n r
theorem EVs.set {d : D} {v : V} (h : EV K H ρ d v) : ∀ {ds : List D} {vs : List V} (i : Nat), EVs K H ρ ds vs → EVs K H ρ (ds.set i d) (vs.set i v)
  | _, _, _, .nil => .nil
  | _, _, 0, .cons _ r => .cons h r
  | _, _, i + 1, .cons q r => .cons q (EVs.set h i r)
theorem EVs.reverse {ds : List D} {vs : List V} (h : EVs K H ρ ds vs) : EVs K H ρ ds.reverse vs.reverse := by
  induction ds generalizing vs with
  | nil => cases h; exact .nil
  | cons d ds ih => cases h with
    | cons h r =>
      rw [List.reverse_cons, List.reverse_cons]
      exact (ih r).append (.cons h .nil)
theorem EVs.dropLast {ds : List D} {vs : List V} (h : EVs K H ρ ds vs) : EVs K H ρ ds.dropLast vs.dropLast := by
  rw [List.dropLast_eq_take, List.dropLast_eq_take, h.length]
  exact h.take _
theorem EVs.rep {ds : List D} {vs : List V} (h : EVs K H ρ ds vs) : ∀ k : Nat, EVs K H ρ (List.replicate k ds).flatten (List.replicate k vs).flatten
  | 0 => .nil
  | k + 1 => by
    rw [List.replicate_succ, List.replicate_succ, List.flatten_cons, List.flatten_cons]
    exact h.append (EVs.rep h k)
theorem EC.mono (f : Fr H ρ H' ρ') (hk : ∀ o, H a = some o → (∀ ps, o ≠ .tbl ps) → H' a = some o) {c : Cell} (h : EC K H ρ a c) : EC K H' ρ' a c := by
  cases c with
  | lst ds =>
    obtain ⟨vs, h1, h2⟩ := h
    exact ⟨vs, hk _ h1 (fun _ z => nomatch z), h2.mono f⟩
  | dct kvs =>
    obtain ⟨vs, h1, h2, h3⟩ := h
    exact ⟨vs, hk _ h1 (fun _ z => nomatch z), h2, h3.mono f⟩
  | dtt kvs =>
    obtain ⟨vs, h1, h2, h3, h4⟩ := h
    exact ⟨vs, hk _ h1 (fun _ z => nomatch z), h2, fun x hx => f.rd (h3 x hx), h4.mono f⟩
  | obj C fs =>
    obtain ⟨dx, vs, h1, h2, h3⟩ := h
    exact ⟨dx, vs, hk _ h1 (fun _ z => nomatch z), h2, h3.mono f⟩
theorem ES.addr (e : ES K T H ρ st) {i : Nat} {c : Cell} (h : st[i]? = some c) : ∃ a, ρ[i]? = some a ∧ EC K H ρ a c := by
  have hl := (List.getElem?_eq_some_iff.mp h).1
  rw [← e.len] at hl
  exact ⟨ρ[i], List.getElem?_eq_getElem hl, e.cell i _ c (List.getElem?_eq_getElem hl) h⟩
theorem nd_get {l : List Addr} (h : l.Nodup) {i j : Nat} {a : Addr} (h1 : l[i]? = some a) (h2 : l[j]? = some a) : i = j := by
  obtain ⟨q1, e1⟩ := List.getElem?_eq_some_iff.mp h1
  obtain ⟨q2, e2⟩ := List.getElem?_eq_some_iff.mp h2
  exact (List.getElem_inj h).mp (e1.trans e2.symm)
/-- an older store: the newer objects are forgotten -/
theorem Fr.back (f : Fr H ρ H' ρ') : Fr H ρ H' ρ := ⟨⟨[], (List.append_nil _).symm⟩, f.keep, f.tup, f.frz, fun _ h n => absurd h n⟩
/-- objects are laid: H grows at p, which is not the store's -/
theorem tab_of (hk : ∀ b o, H b = some o → (∀ xs, o ≠ .lst xs) → H' b = some o) {P : Addr} {q : Str} (t : LamX.TabS H P q) : LamX.TabS H' P q := by
  obtain ⟨ps, h1, h2, h3⟩ := t
  refine ⟨ps, hk _ _ h1 (fun _ z => nomatch z), h2, fun pos cv hc => ?_⟩
  obtain ⟨c, e1, e2⟩ := h3 pos cv hc
  exact ⟨c, e1, hk _ _ e2 (fun _ z => nomatch z)⟩
theorem tabs_of (hk : ∀ b o, H b = some o → (∀ xs, o ≠ .lst xs) → H' b = some o) (t : LamX.Tabs T H) : LamX.Tabs T H' := fun p hp => tab_of hk (t p hp)
theorem Fr.laid {p : Addr} {o : HO} (hp : H p = none) : Fr H ρ (upd H p o) ρ where
  pre := ⟨[], (List.append_nil _).symm⟩
  keep := fun a u h _ _ => by rw [upd_ne (ne_of_none h hp)]; exact h
  tup := fun a u h => by rw [upd_ne (ne_of_none h hp)]; exact h
  frz := fun a u z h => by rw [upd_ne (ne_of_none h hp)]; exact h
  new := fun _ h n => absurd h n
/-- .. and taken into the store -/
theorem Fr.laidS {p : Addr} {o : HO} (hp : H p = none) : Fr H ρ (upd H p o) (ρ ++ [p]) where
  pre := ⟨[p], rfl⟩
  keep := (Fr.laid (ρ := ρ) hp).keep
  tup := (Fr.laid (ρ := ρ) hp).tup
  frz := (Fr.laid (ρ := ρ) hp).frz
  new := fun a h n u hu => by
    rcases List.mem_append.mp h with h | h
    · exact absurd h n
    · rw [List.mem_singleton.mp h, hp] at hu
      cases hu
/-- a list of the store is written -/
theorem Fr.write {p : Addr} {xs ys : List V} (hm : p ∈ ρ) (hp : H p = some (.lst xs)) : Fr H ρ (upd H p (.lst ys)) ρ where
  pre := ⟨[], (List.append_nil _).symm⟩
  keep := fun a u h n _ => by rw [upd_ne (show a ≠ p from fun e => n (by rw [e]; exact hm))]; exact h
  tup := fun a u h => by rw [upd_ne (ne_of h hp (fun z => nomatch z))]; exact h
  frz := fun a u z h => by rw [upd_ne (ne_of h hp (fun z => nomatch z))]; exact h
  new := fun _ h n => absurd h n
theorem keepL {p : Addr} {xs ys : List V} (hp : H p = some (.lst xs)) : ∀ b o, H b = some o → (∀ xs, o ≠ .lst xs) → (upd H p (.lst ys)) b = some o := fun b u h n => by
  have e : b ≠ p := fun e => n xs (by rw [e, hp] at h; exact (Option.some.inj h).symm)
  rw [upd_ne e]
  exact h
theorem keepN {p : Addr} {o : HO} (hp : H p = none) : ∀ b u, H b = some u → (∀ xs, u ≠ .lst xs) → (upd H p o) b = some u := fun b u h _ => by
  rw [upd_ne (ne_of_none h hp)]
  exact h
/-- the store under a frame that has left it alone -/
theorem ES.laid {p : Addr} {o : HO} (e : ES K T H ρ st) (hp : H p = none) : ES K T (upd H p o) ρ st := ⟨tabs_of (keepN hp) e.tabs, e.len, e.nd, fun i a c h1 h2 => (e.cell i a c h1 h2).mono (Fr.laid hp) fun u h _ => by rw [upd_ne (ne_of_none h hp)]; exact h⟩
theorem EC.there {c : Cell} (h : EC K H ρ a c) : ∃ o, H a = some o := by
  cases c with
  | lst ds =>
    obtain ⟨vs, h1, _⟩ := h
    exact ⟨_, h1⟩
  | dct kvs =>
    obtain ⟨vs, h1, _⟩ := h
    exact ⟨_, h1⟩
  | dtt kvs =>
    obtain ⟨vs, h1, _⟩ := h
    exact ⟨_, h1⟩
  | obj C fs =>
    obtain ⟨dx, vs, h1, _⟩ := h
    exact ⟨_, h1⟩
theorem ES.fresh (e : ES K T H ρ st) {p : Addr} (hp : H p = none) : p ∉ ρ := fun hm => by
  obtain ⟨i, hi⟩ := List.getElem?_of_mem hm
  have hl := (List.getElem?_eq_some_iff.mp hi).1
  rw [e.len] at hl
  obtain ⟨o, h⟩ := (e.cell i p _ hi (List.getElem?_eq_getElem hl)).there
  rw [hp] at h
  cases h
/-- a new list -/
theorem ES.lay {p : Addr} {ds : List D} {vs : List V} (e : ES K T H ρ st) (hp : H p = none) (h : EVs K H ρ ds vs) : ES K T (upd H p (.lst vs)) (ρ ++ [p]) (st ++ [.lst ds]) where
  tabs := tabs_of (keepN hp) e.tabs
  len := by rw [List.length_append, List.length_append, e.len]; rfl
  nd := by
    rw [List.nodup_append]
    refine ⟨e.nd, by simp, fun a ha b hb z => ?_⟩
    rw [List.mem_singleton.mp hb] at z
    exact e.fresh hp (z ▸ ha)
  cell := fun i a c h1 h2 => by
    have F : Fr H ρ (upd H p (.lst vs)) (ρ ++ [p]) := Fr.laidS hp
    by_cases hi : i < ρ.length
    · rw [List.getElem?_append_left hi] at h1
      rw [List.getElem?_append_left (by rw [← e.len]; exact hi)] at h2
      exact (e.cell i a c h1 h2).mono F fun o h _ => by rw [upd_ne (ne_of_none h hp)]; exact h
    · have hl : i = ρ.length := by
        have := (List.getElem?_eq_some_iff.mp h1).1
        rw [List.length_append, List.length_singleton] at this
        omega
      subst hl
      rw [List.getElem?_append_right (Nat.le_refl _), Nat.sub_self] at h1
      rw [e.len, List.getElem?_append_right (Nat.le_refl _), Nat.sub_self] at h2
      cases h1
      cases h2
      exact ⟨vs, upd_same, h.mono F⟩
/-- a list is written -/
theorem ES.write {p : Addr} {i : Nat} {ds : List D} {xs vs : List V} (e : ES K T H ρ st) (hi : ρ[i]? = some p) (hp : H p = some (.lst xs)) (h : EVs K H ρ ds vs) : ES K T (upd H p (.lst vs)) ρ (st.set i (.lst ds)) where
  tabs := tabs_of (keepL hp) e.tabs
  len := by rw [List.length_set]; exact e.len
  nd := e.nd
  cell := fun j a c h1 h2 => by
    have F : Fr H ρ (upd H p (.lst vs)) ρ := Fr.write (List.mem_of_getElem? hi) hp
    by_cases hj : j = i
    · subst hj
      rw [hi] at h1
      cases h1
      have hl : j < st.length := by rw [← e.len]; exact (List.getElem?_eq_some_iff.mp hi).1
      rw [List.getElem?_set_self hl] at h2
      cases h2
      exact ⟨vs, upd_same, h.mono F⟩
    · rw [List.getElem?_set_ne (Ne.symm hj)] at h2
      have hap : a ≠ p := fun z => hj (nd_get e.nd (z ▸ h1) hi)
      exact (e.cell j a c h1 h2).mono F fun o h _ => by rw [upd_ne hap]; exact h
mutual
theorem EV.narrow {l : List Addr} : ∀ {d : D} {v v' : V}, EV K H ρ d v → EV K H' (ρ ++ l) d v' → EV K H' ρ d v'
  | _, _, _, .non, h => by cases h; exact .non
  | _, _, _, .bl b, h => by cases h; exact .bl b
  | _, _, _, .int i, h => by cases h; exact .int i
  | _, _, _, .str s, h => by cases h; exact .str s
  | _, _, _, .tup _ r, h => by
    cases h with
    | tup h' r' => exact .tup h' (EVs.narrow r r')
  | _, _, _, .ref h0, h => by
    cases h with
    | ref h1 =>
      have hl := (List.getElem?_eq_some_iff.mp h0).1
      rw [List.getElem?_append_left hl] at h1
      exact .ref h1
  | _, _, _, .ty n, h => by cases h; exact .ty n
  | _, _, _, .ob a, h => by cases h; exact .ob a
  | _, _, _, .kl _ r, h => by
    cases h with
    | kl h' r' => exact .kl h'.cut (EVs.narrow r r')
theorem EVs.narrow {l : List Addr} : ∀ {ds : List D} {vs vs' : List V}, EVs K H ρ ds vs → EVs K H' (ρ ++ l) ds vs' → EVs K H' ρ ds vs'
  | _, _, _, .nil, h => by cases h; exact .nil
  | _, _, _, .cons h r, h' => by
    cases h' with
    | cons h1 r1 => exact .cons (EV.narrow h h1) (EVs.narrow r r1)
end
mutual
def D.cl (n : Nat) : D → Bool
  | .tup ds => D.clAll n ds
  | .ref k => decide (k < n)
  | .kl ds => D.clAll n ds
  | _ => true
def D.clAll (n : Nat) : List D → Bool
  | [] => true
  | d :: ds => d.cl n && D.clAll n ds
end
mutual
theorem EV.shrink {l : List Addr} : ∀ {d : D} {v : V}, d.cl ρ.length = true → EV K H (ρ ++ l) d v → EV K H ρ d v
  | _, _, _, .non => .non
  | _, _, _, .bl b => .bl b
  | _, _, _, .int i => .int i
  | _, _, _, .str s => .str s
  | _, _, c, .tup h r => .tup h (EVs.shrink (by unfold D.cl at c; exact c) r)
  | _, _, c, .ref h => by
    have hl : _ < ρ.length := of_decide_eq_true (by simpa [D.cl] using c)
    rw [List.getElem?_append_left hl] at h
    exact .ref h
  | _, _, _, .ty n => .ty n
  | _, _, _, .ob a => .ob a
  | _, _, c, .kl h r => .kl h.cut (EVs.shrink (by unfold D.cl at c; exact c) r)
theorem EVs.shrink {l : List Addr} : ∀ {ds : List D} {vs : List V}, D.clAll ρ.length ds = true → EVs K H (ρ ++ l) ds vs → EVs K H ρ ds vs
  | _, _, _, .nil => .nil
  | _, _, c, .cons h r => by
    unfold D.clAll at c
    have c' := (Bool.and_eq_true _ _).mp c
    exact .cons (EV.shrink c'.1 h) (EVs.shrink c'.2 r)
end
def Cell.cl (n : Nat) : Cell → Bool
  | .lst ds => D.clAll n ds
  | .dct kvs => D.clAll n (kvs.map (·.2))
  | .dtt kvs => D.clAll n (kvs.map (·.2))
  | .obj _ fs => D.clAll n (fs.map (·.2))
/-- the first part of a store that names no later object -/
theorem ES.pre {g : Sto} (hp : ∃ l, ρ' = ρ ++ l) (hl : ρ.length = st.length) (hc : ∀ c ∈ st, c.cl st.length = true) (e : ES K T H' ρ' (st ++ g)) : ES K T H' ρ st := by
  obtain ⟨l, hp⟩ := hp
  subst hp
  refine ⟨e.tabs, hl, (List.nodup_append.mp e.nd).1, fun i a c h1 h2 => ?_⟩
  have hi := (List.getElem?_eq_some_iff.mp h2).1
  have q := e.cell i a c (by rw [List.getElem?_append_left (by rw [hl]; exact hi)]; exact h1) (by rw [List.getElem?_append_left hi]; exact h2)
  have z := hc c (List.mem_of_getElem? h2)
  rw [← hl] at z
  cases c with
  | lst ds =>
    obtain ⟨vs, q1, q2⟩ := q
    exact ⟨vs, q1, q2.shrink (by simpa [Cell.cl] using z)⟩
  | dct kvs =>
    obtain ⟨vs, q1, q2, q3⟩ := q
    exact ⟨vs, q1, q2, q3.shrink (by simpa [Cell.cl] using z)⟩
  | dtt kvs =>
    obtain ⟨vs, q1, q2, q4, q3⟩ := q
    exact ⟨vs, q1, q2, q4, q3.shrink (by simpa [Cell.cl] using z)⟩
  | obj C fs =>
    obtain ⟨dx, vs, q1, q2, q3⟩ := q
    exact ⟨dx, vs, q1, q2, q3.shrink (by simpa [Cell.cl] using z)⟩
/-- .. that has not changed -/
theorem ES.same {g : Sto} (e0 : ES K T H ρ st) (f : Fr H ρ H' ρ') (e : ES K T H' ρ' (st ++ g)) : ES K T H' ρ st := by
  obtain ⟨l, hp⟩ := f.pre
  subst hp
  refine ⟨e.tabs, e0.len, e0.nd, fun i a c h1 h2 => ?_⟩
  have hi := (List.getElem?_eq_some_iff.mp h2).1
  have q := e.cell i a c (by rw [List.getElem?_append_left (by rw [e0.len]; exact hi)]; exact h1) (by rw [List.getElem?_append_left hi]; exact h2)
  have q0 := e0.cell i a c h1 h2
  cases c with
  | lst ds =>
    obtain ⟨vs, q1, q2⟩ := q
    obtain ⟨_, _, r2⟩ := q0
    exact ⟨vs, q1, r2.narrow q2⟩
  | dct kvs =>
    obtain ⟨vs, q1, q2, q3⟩ := q
    obtain ⟨_, _, _, r3⟩ := q0
    exact ⟨vs, q1, q2, r3.narrow q3⟩
  | dtt kvs =>
    obtain ⟨vs, q1, q2, q4, q3⟩ := q
    obtain ⟨_, _, _, _, r3⟩ := q0
    exact ⟨vs, q1, q2, q4, r3.narrow q3⟩
  | obj C fs =>
    obtain ⟨dx, vs, q1, q2, q3⟩ := q
    obtain ⟨_, _, _, _, r3⟩ := q0
    exact ⟨dx, vs, q1, q2, r3.narrow q3⟩

/-! ### what is wanted of a result -/
def Post {α β : Type} (Rel : Hp → List Addr → α → β → Prop) (K : PySem.W.Frag) (T : List (Addr × Str)) (C : Nat → Addr) (H : Hp) (ρ : List Addr) (Q : β → Hp → Prop) (E : XK) : R α → Prop
  | .ok a st' => ∀ ρ' H' b, Fr H ρ H' ρ' → Rel H' ρ' a b → ES K T H' ρ' st' → Q b H'
  | .er n st' => ∀ ρ' H', Fr H ρ H' ρ' → ES K T H' ρ' st' → E (.ref (C n)) none H'
  | .no => False
theorem Post.shift {α β : Type} {Rel : Hp → List Addr → α → β → Prop} {C : Nat → Addr} {Q : β → Hp → Prop} {E : XK} {r : R α} (f : Fr H ρ H1 ρ1) (h : Post Rel K T C H ρ Q E r) : Post Rel K T C H1 ρ1 Q E r := by
  cases r with
  | ok a st' => exact fun ρ' H' b g => h ρ' H' b (f.trans g)
  | er n st' => exact fun ρ' H' g => h ρ' H' (f.trans g)
  | no => exact h
theorem Post.bind {α β α' β' : Type} {Rel : Hp → List Addr → α → β → Prop} {Rel' : Hp → List Addr → α' → β' → Prop} {C : Nat → Addr} {Q : β → Hp → Prop} {Q' : β' → Hp → Prop} {E : XK} {r : R α} {k : α → Sto → R α'}
    (h : Post Rel' K T C H ρ Q' E (r.bind k)) (hk : ∀ a st1 ρ1 H1 b, Fr H ρ H1 ρ1 → Rel H1 ρ1 a b → ES K T H1 ρ1 st1 → Post Rel' K T C H1 ρ1 Q' E (k a st1) → Q b H1) : Post Rel K T C H ρ Q E r := by
  cases r with
  | ok a st1 => exact fun ρ1 H1 b f r e => hk a st1 ρ1 H1 b f r e (Post.shift f h)
  | er n st1 => exact h
  | no => exact h
/-- an answer as it stands -/
theorem Post.now {α β : Type} {Rel : Hp → List Addr → α → β → Prop} {C : Nat → Addr} {Q : β → Hp → Prop} {E : XK} {a : α} {b : β} (h : Post Rel K T C H ρ Q E (.ok a st)) (r : Rel H ρ a b) (e : ES K T H ρ st) : Q b H := h ρ H b (Fr.refl H ρ) r e

def EVo (K : PySem.W.Frag) (H : Hp) (ρ : List Addr) (env : Ev) (σ : L2.St) : Prop := env.length = σ.length ∧ ∀ (i : Nat) (d : D), env[i]? = some (some d) → ∃ v, σ[i]? = some (some v) ∧ EV K H ρ d v
theorem EVo.mono {env : Ev} {σ : L2.St} (f : Fr H ρ H' ρ') (e : EVo K H ρ env σ) : EVo K H' ρ' env σ := ⟨e.1, fun i d h => by
  obtain ⟨v, h1, h2⟩ := e.2 i d h
  exact ⟨v, h1, h2.mono f⟩⟩
theorem EVo.set {env : Ev} {σ : L2.St} {d : D} {v : V} (e : EVo K H ρ env σ) (h : EV K H ρ d v) (i : Nat) : EVo K H ρ (env.set i (some d)) (σ.set i (some v)) := ⟨by rw [List.length_set, List.length_set]; exact e.1, fun j x hj => by
  by_cases q : i = j
  · subst q
    by_cases hl : i < env.length
    · rw [List.getElem?_set_self hl] at hj
      cases hj
      exact ⟨v, List.getElem?_set_self (by rw [← e.1]; exact hl), h⟩
    · rw [List.getElem?_eq_none (by rw [List.length_set]; omega)] at hj
      cases hj
  · rw [List.getElem?_set_ne q] at hj
    rw [List.getElem?_set_ne q]
    exact e.2 j x hj⟩
theorem EVo.unset {env : Ev} {σ : L2.St} (e : EVo K H ρ env σ) (i : Nat) : EVo K H ρ (env.set i none) (σ.set i none) := ⟨by rw [List.length_set, List.length_set]; exact e.1, fun j x hj => by
  by_cases q : i = j
  · subst q
    by_cases hl : i < env.length
    · rw [List.getElem?_set_self hl] at hj
      cases hj
    · rw [List.getElem?_eq_none (by rw [List.length_set]; omega)] at hj
      cases hj
  · rw [List.getElem?_set_ne q] at hj
    rw [List.getElem?_set_ne q]
    exact e.2 j x hj⟩
def wipeD (env : Ev) : List Nat → Ev
  | [] => env
  | v :: vs => (wipeD env vs).set v none
theorem EVo.wipe {env : Ev} {σ : L2.St} (e : EVo K H ρ env σ) : ∀ vs : List Nat, EVo K H ρ (wipeD env vs) (L2.wipe σ vs)
  | [] => e
  | v :: vs => (EVo.wipe e vs).unset v
end
end Dn

set_option Elab.async false
set_option linter.all false
set_option maxRecDepth 100000
set_option maxHeartbeats 2000000
/-! The judgements: a piece of syntax, its reading, and what it makes of data. -/
namespace Dn
open PySem L2

/-- the classes of exceptions by their numbers; the tables of code objects; what is wanted of an exception -/
structure Gx where
  C : Nat → Addr
  T : List (Addr × Str)
  E : XK

abbrev PostE (K : PySem.W.Frag) (G : Gx) (H : Hp) (ρ : List Addr) (Q : VK) (r : R D) : Prop := Post (EV K) K G.T G.C H ρ Q G.E r
abbrev PostA (K : PySem.W.Frag) (G : Gx) (H : Hp) (ρ : List Addr) (Q : List V → Hp → Prop) (r : R (List D)) : Prop := Post (EVs K) K G.T G.C H ρ Q G.E r
abbrev PostT (K : PySem.W.Frag) (G : Gx) (H : Hp) (ρ : List Addr) (Q : Bool → Hp → Prop) (r : R Bool) : Prop := Post (fun _ _ a b => a = b) K G.T G.C H ρ Q G.E r

abbrev ME := Ev → Sto → R D
abbrev MA := Ev → Sto → R (List D)
abbrev MT := Ev → Sto → R Bool

structure SE (X : Cx) (G : Gx) (e : Expr) (t : TE) (m : ME) : Prop where
  pe : PE X e t
  sd : ∀ (σ : L2.St) (env : Ev) (ρ : List Addr) (st : Sto) (H : Hp) (Q : VK), EVo X.K H ρ env σ → ES X.K G.T H ρ st → PostE X.K G H ρ Q (m env st) → t σ H Q
structure SA (X : Cx) (G : Gx) (es : List Expr) (t : TA) (m : MA) : Prop where
  pe : PA X es t
  sd : ∀ (σ : L2.St) (env : Ev) (ρ : List Addr) (st : Sto) (H : Hp) (Q : List V → Hp → Prop), EVo X.K H ρ env σ → ES X.K G.T H ρ st → PostA X.K G H ρ Q (m env st) → t σ H Q
structure ST (X : Cx) (G : Gx) (e : Expr) (t : TT) (m : MT) : Prop where
  pe : PT X e t
  sd : ∀ (σ : L2.St) (env : Ev) (ρ : List Addr) (st : Sto) (H : Hp) (Q : Bool → Hp → Prop), EVo X.K H ρ env σ → ES X.K G.T H ρ st → PostT X.K G H ρ Q (m env st) → t σ H Q
structure SW (X : Cx) (G : Gx) (e : Expr) (t : TT) (m : MT) : Prop where
  pe : PW X e t
  sd : ∀ (σ : L2.St) (env : Ev) (ρ : List Addr) (st : Sto) (H : Hp) (Q : Bool → Hp → Prop), EVo X.K H ρ env σ → ES X.K G.T H ρ st → PostT X.K G H ρ Q (m env st) → t σ H Q
theorem SW.pt {X : Cx} {G : Gx} {e : Expr} {t : TT} {m : MT} (h : SW X G e t m) : ST X G e t m := ⟨h.pe.pt, h.sd⟩

/-! ### what the rules on values make of data -/
abbrev F2 := D → D → Sto → R D
def OpS (K : PySem.W.Frag) (G : Gx) (r : R2) (f : F2) : Prop :=
  ∀ (x y : D) (vx vy : V) (ρ : List Addr) (st : Sto) (H : Hp) (Q : VK), EV K H ρ x vx → EV K H ρ y vy → ES K G.T H ρ st → PostE K G H ρ Q (f x y st) → r vx vy H Q
abbrev F1 := D → Sto → R D
def UnS (K : PySem.W.Frag) (G : Gx) (r : V → Hp → VK → Prop) (f : F1) : Prop :=
  ∀ (x : D) (vx : V) (ρ : List Addr) (st : Sto) (H : Hp) (Q : VK), EV K H ρ x vx → ES K G.T H ρ st → PostE K G H ρ Q (f x st) → r vx H Q
abbrev FN := List D → Sto → R D
def CallS (K : PySem.W.Frag) (G : Gx) (r : List V → Hp → VK → Prop) (f : FN) : Prop :=
  ∀ (xs : List D) (vs : List V) (ρ : List Addr) (st : Sto) (H : Hp) (Q : VK), EVs K H ρ xs vs → ES K G.T H ρ st → PostE K G H ρ Q (f xs st) → r vs H Q

/-! ### expressions -/
def dVar (i : Nat) : ME := fun env st => match env[i]? with
  | some (some d) => .ok d st
  | _ => .no
def dC (d : D) : ME := fun _ st => .ok d st
def dBin (f : F2) (a b : ME) : ME := fun env st => (a env st).bind fun x st => (b env st).bind fun y st => f x y st
def dUn (f : F1) (a : ME) : ME := fun env st => (a env st).bind f
def dCall (f : FN) (as : MA) : ME := fun env st => (as env st).bind f
def aNil : MA := fun _ st => .ok [] st
def aCons (a : ME) (as : MA) : MA := fun env st => (a env st).bind fun x st => (as env st).bind fun xs st => .ok (x :: xs) st
def dTup (as : MA) : ME := fun env st => (as env st).bind fun xs st => if xs.length ≤ 100000 then .ok (.tup xs) st else .no
def dLst (as : MA) : ME := fun env st => (as env st).bind fun xs st => if xs.length ≤ 100000 then .ok (.ref st.length) (st ++ [.lst xs]) else .no
def tVal (a : ME) : MT := fun env st => (a env st).bind fun x st => match x with
  | .bl b => .ok b st
  | _ => .no
def tAndD (t u : MT) : MT := fun env st => (t env st).bind fun b st => if b = true then u env st else .ok false st
def tOrD (t u : MT) : MT := fun env st => (t env st).bind fun b st => if b = true then .ok true st else u env st
def tNotD (t : MT) : MT := fun env st => (t env st).bind fun b st => .ok (!b) st
def dAndV (a b : ME) : ME := fun env st => (a env st).bind fun x st => match x with
  | .bl k => if k = true then b env st else .ok (.bl false) st
  | _ => .no
def dOrV (a b : ME) : ME := fun env st => (a env st).bind fun x st => match x with
  | .bl k => if k = true then .ok (.bl true) st else b env st
  | _ => .no
def dNotV (a : ME) : ME := fun env st => (a env st).bind fun x st => match x with
  | .bl k => .ok (.bl (!k)) st
  | _ => .no
def dIf (t : MT) (a b : ME) : ME := fun env st => (t env st).bind fun k st => if k = true then a env st else b env st
def dChain (f g : F2) (a b c : ME) : ME := fun env st => (a env st).bind fun x st => (b env st).bind fun y st => (f x y st).bind fun z st => match z with
  | .bl k => if k = true then (c env st).bind fun w st => g y w st else .ok (.bl false) st
  | _ => .no
/-- a value's truth -/
def truthD : D → Sto → R Bool
  | .non, st => .ok false st
  | .bl b, st => .ok b st
  | .int i, st => .ok (i != 0) st
  | .str s, st => if s.length ≤ sizeLine then .ok ((s.length : Int) != 0) st else .no
  | .tup ds, st => .ok (!ds.isEmpty) st
  | .ref n, st => match st[n]? with
    | some (.lst ds) => .ok (!ds.isEmpty) st
    | _ => .no
  | .ty _, _ => .no
  | .ob _, _ => .no
  | .kl ds, st => .ok (!ds.isEmpty) st
def tTru (a : ME) : MT := fun env st => (a env st).bind truthD

section
variable {X : Cx} {G : Gx} {a b c e : Expr} {es : List Expr} {ta tb tc : TE} {tas : TA} {tt tu : TT} {ma mb mc : ME} {mas : MA} {mt mu : MT} {pos : Pos} {r r' : R2} {f g : F2}
theorem se_var (i : Nat) {x : Str} (hN : X.N[i]? = some x := by rfl) (hv : Vis X.env.scope x := by first | exact Or.inl rfl | exact Or.inr (Or.inl rfl) | exact Or.inr (Or.inr rfl)) (hd : (x == ("__debug__" : Str)) = false := by decide)
    (hcd : (x == ("__classdict__" : Str)) = false := by decide) : SE X G (.Name x pos) (tVar i) (dVar i) := ⟨pe_var hN hv hd hcd, fun σ env ρ st H Q ev es h => by
  unfold dVar at h
  split at h
  · rename_i d hd
    obtain ⟨v, h1, h2⟩ := ev.2 i d hd
    exact ⟨v, h1, h.now h2 es⟩
  · exact h.elim⟩
theorem se_const {d : D} {v : V} (hp : PE X e (tC v)) (hv : ∀ H ρ, EV X.K H ρ d v) : SE X G e (tC v) (dC d) := ⟨hp, fun σ env ρ st H Q ev es h => h.now (hv H ρ) es⟩
theorem se_int {i : Int} {j p} : SE X G (.Constant (.int i) j p) (tC (.int i)) (dC (.int i)) := se_const pe_int fun _ _ => .int i
theorem se_bl {k : Bool} {j p} : SE X G (.Constant (.bool k) j p) (tC (.bl k)) (dC (.bl k)) := se_const pe_bl fun _ _ => .bl k
theorem se_non {j p} : SE X G (.Constant .none j p) (tC .non) (dC .non) := se_const pe_non fun _ _ => .non
theorem se_str {x : Str} {j p} : SE X G (.Constant (.str x) j p) (tC (.str x)) (dC (.str x)) := se_const pe_str fun _ _ => .str x
/-- two in a row -/
theorem sd_bin (ha : SE X G a ta ma) (hb : SE X G b tb mb) {σ : L2.St} {env : Ev} {ρ : List Addr} {st : Sto} {H : Hp} {Q : VK} {k : V → V → Hp → Prop} {kf : D → D → Sto → R D} (ev : EVo X.K H ρ env σ) (es : ES X.K G.T H ρ st)
    (h : PostE X.K G H ρ Q ((ma env st).bind fun x st => (mb env st).bind fun y st => kf x y st))
    (hk : ∀ x y vx vy ρ2 st2 H2, EV X.K H2 ρ2 x vx → EV X.K H2 ρ2 y vy → ES X.K G.T H2 ρ2 st2 → EVo X.K H2 ρ2 env σ → PostE X.K G H2 ρ2 Q (kf x y st2) → k vx vy H2) : ta σ H fun x H1 => tb σ H1 fun y H2 => k x y H2 := by
  refine ha.sd σ env ρ st H _ ev es (h.bind fun x st1 ρ1 H1 vx f1 e1 es1 h1 => ?_)
  refine hb.sd σ env ρ1 st1 H1 _ (ev.mono f1) es1 (h1.bind fun y st2 ρ2 H2 vy f2 e2 es2 h2 => ?_)
  exact hk x y vx vy ρ2 st2 H2 (e1.mono f2) e2 es2 (ev.mono (f1.trans f2)) h2
theorem se_bin {op : Operator} (ho : OpR X (binaryOp op) r) (hs : OpS X.K G r f) (ha : SE X G a ta ma) (hb : SE X G b tb mb) : SE X G (.BinOp a op b pos) (tOp r ta tb) (dBin f ma mb) :=
  ⟨pe_op ho ha.pe hb.pe, fun σ env ρ st H Q ev es h => sd_bin ha hb ev es h fun x y vx vy ρ2 st2 H2 e1 e2 es2 _ h2 => hs x y vx vy ρ2 st2 H2 Q e1 e2 es2 h2⟩
theorem se_cmp {op : CmpOp} (ho : OpR X (compareOp op) r) (hs : OpS X.K G r f) (ha : SE X G a ta ma) (hb : SE X G b tb mb) (hm : behindInMarks op b = false) : SE X G (.Compare a [op] [b] pos) (tOp r ta tb) (dBin f ma mb) :=
  ⟨pe_cmpR ho ha.pe hb.pe hm, fun σ env ρ st H Q ev es h => sd_bin ha hb ev es h fun x y vx vy ρ2 st2 H2 e1 e2 es2 _ h2 => hs x y vx vy ρ2 st2 H2 Q e1 e2 es2 h2⟩
theorem sd_val (ha : ∀ (σ : L2.St) (env : Ev) (ρ : List Addr) (st : Sto) (H : Hp) (Q : VK), EVo X.K H ρ env σ → ES X.K G.T H ρ st → PostE X.K G H ρ Q (ma env st) → ta σ H Q) {σ : L2.St} {env : Ev} {ρ : List Addr} {st : Sto} {H : Hp} {Q : Bool → Hp → Prop} (ev : EVo X.K H ρ env σ) (es : ES X.K G.T H ρ st)
    (h : PostT X.K G H ρ Q (tVal ma env st)) : ta σ H fun x H' => ∃ k, x = .bl k ∧ Q k H' := by
  refine ha σ env ρ st H _ ev es (h.bind fun x st1 ρ1 H1 vx f1 e1 es1 h1 => ?_)
  cases e1 with
  | bl k => exact ⟨k, rfl, h1.now rfl es1⟩
  | _ => exact h1.elim
theorem st_cmp {op : CmpOp} (ho : OpR X (compareOp op) r) (hs : OpS X.K G r f) (ha : SE X G a ta ma) (hb : SE X G b tb mb) (hm : behindInMarks op b = false) : ST X G (.Compare a [op] [b] pos) (tTest (tOp r ta tb)) (tVal (dBin f ma mb)) :=
  ⟨pt_cmpR ho ha.pe hb.pe hm, fun σ env ρ st H Q ev es h => sd_val (se_cmp (pos := pos) ho hs ha hb hm).sd ev es h⟩
theorem sd_chain (hs : OpS X.K G r f) (hs' : OpS X.K G r' g) (ha : SE X G a ta ma) (hb : SE X G b tb mb) (hc : SE X G c tc mc) (σ : L2.St) (env : Ev) (ρ : List Addr) (st : Sto) (H : Hp) (Q : VK) (ev : EVo X.K H ρ env σ) (es : ES X.K G.T H ρ st)
    (h : PostE X.K G H ρ Q (dChain f g ma mb mc env st)) : tChain r r' ta tb tc σ H Q := by
  refine sd_bin ha hb ev es h fun x y vx vy ρ2 st2 H2 e1 e2 es2 ev2 h2 => ?_
  refine hs x y vx vy ρ2 st2 H2 _ e1 e2 es2 (h2.bind fun z st3 ρ3 H3 vz f3 e3 es3 h3 => ?_)
  cases e3 with
  | bl k =>
    refine ⟨k, rfl, ?_⟩
    cases k with
    | true => exact hc.sd σ env ρ3 st3 H3 _ (ev2.mono f3) es3 (h3.bind fun w st4 ρ4 H4 vw f4 e4 es4 h4 => hs' y w vy vw ρ4 st4 H4 Q (e2.mono (f3.trans f4)) e4 es4 h4)
    | false => exact h3.now (.bl false) es3
  | _ => exact h3.elim
theorem se_chain {op op' : CmpOp} (ho : OpR X (compareOp op) r) (hs : OpS X.K G r f) (ho' : OpR X (compareOp op') r') (hs' : OpS X.K G r' g) (ha : SE X G a ta ma) (hb : SE X G b tb mb) (hc : SE X G c tc mc)
    (hm : lastMarks [op, op'] [b, c] = false := by with_unfolding_all rfl) : SE X G (.Compare a [op, op'] [b, c] pos) (tChain r r' ta tb tc) (dChain f g ma mb mc) := ⟨pe_chain ho ho' ha.pe hb.pe hc.pe hm, sd_chain hs hs' ha hb hc⟩
theorem st_chain {op op' : CmpOp} (ho : OpR X (compareOp op) r) (hs : OpS X.K G r f) (ho' : OpR X (compareOp op') r') (hs' : OpS X.K G r' g) (ha : SE X G a ta ma) (hb : SE X G b tb mb) (hc : SE X G c tc mc)
    (hm : lastMarks [op, op'] [b, c] = false := by with_unfolding_all rfl) : ST X G (.Compare a [op, op'] [b, c] pos) (tTest (tChain r r' ta tb tc)) (tVal (dChain f g ma mb mc)) := ⟨pt_chain ho ho' ha.pe hb.pe hc.pe hm, fun σ env ρ st H Q ev es h => sd_val (sd_chain hs hs' ha hb hc) ev es h⟩
theorem se_un {op : UnaryOp} {r : V → Hp → VK → Prop} {f : F1} (ho : UnR X (unaryOp op) r) (hs : UnS X.K G r f) (ha : SE X G a ta ma) : SE X G (.UnaryOp op a pos) (tUn r ta) (dUn f ma) :=
  ⟨pe_un ho ha.pe, fun σ env ρ st H Q ev es h => ha.sd σ env ρ st H _ ev es (h.bind fun x st1 ρ1 H1 vx f1 e1 es1 h1 => hs x vx ρ1 st1 H1 Q e1 es1 h1)⟩
theorem se_not (ha : SE X G a ta ma) : SE X G (.UnaryOp .Not a pos) (tNotV ta) (dNotV ma) := ⟨pe_not ha.pe, fun σ env ρ st H Q ev es h => by
  refine ha.sd σ env ρ st H _ ev es (h.bind fun x st1 ρ1 H1 vx f1 e1 es1 h1 => ?_)
  cases e1 with
  | bl k => exact ⟨k, rfl, h1.now (.bl (!k)) es1⟩
  | _ => exact h1.elim⟩
theorem se_one {op} (h : SE X G a ta ma) : SE X G (.BoolOp op [a] pos) ta ma := ⟨pe_one h.pe, h.sd⟩
theorem se_and {rest : List Expr} (ha : SE X G a ta ma) (hb : SE X G (.BoolOp .And (b :: rest) pos) tb mb) : SE X G (.BoolOp .And (a :: b :: rest) pos) (tAndV ta tb) (dAndV ma mb) := ⟨pe_and ha.pe hb.pe, fun σ env ρ st H Q ev es h => by
  refine ha.sd σ env ρ st H _ ev es (h.bind fun x st1 ρ1 H1 vx f1 e1 es1 h1 => ?_)
  cases e1 with
  | bl k =>
    refine ⟨k, rfl, ?_⟩
    cases k with
    | true => exact hb.sd σ env ρ1 st1 H1 Q (ev.mono f1) es1 h1
    | false => exact h1.now (.bl false) es1
  | _ => exact h1.elim⟩
theorem se_or {rest : List Expr} (ha : SE X G a ta ma) (hb : SE X G (.BoolOp .Or (b :: rest) pos) tb mb) : SE X G (.BoolOp .Or (a :: b :: rest) pos) (tOrV ta tb) (dOrV ma mb) := ⟨pe_or ha.pe hb.pe, fun σ env ρ st H Q ev es h => by
  refine ha.sd σ env ρ st H _ ev es (h.bind fun x st1 ρ1 H1 vx f1 e1 es1 h1 => ?_)
  cases e1 with
  | bl k =>
    refine ⟨k, rfl, ?_⟩
    cases k with
    | false => exact hb.sd σ env ρ1 st1 H1 Q (ev.mono f1) es1 h1
    | true => exact h1.now (.bl true) es1
  | _ => exact h1.elim⟩
theorem se_if (ht : ST X G c tt mt) (ha : SE X G a ta ma) (hb : SE X G b tb mb) : SE X G (.IfExp c a b pos) (tIf tt ta tb) (dIf mt ma mb) := ⟨pe_ifExp ht.pe ha.pe hb.pe, fun σ env ρ st H Q ev es h => by
  refine ht.sd σ env ρ st H _ ev es (h.bind fun x st1 ρ1 H1 vx f1 e1 es1 h1 => ?_)
  subst e1
  cases x with
  | true => exact ha.sd σ env ρ1 st1 H1 Q (ev.mono f1) es1 h1
  | false => exact hb.sd σ env ρ1 st1 H1 Q (ev.mono f1) es1 h1⟩
/-! tests -/
theorem st_val (ha : SE X G a ta ma) (he : ∀ whole, isTrue a X.env whole = (do let v ← whole; standAt a.pos; holding [v] (truthy v)) := by intro _; rfl) : ST X G a (L2.tB ta) (tVal ma) := ⟨pt_val ha.pe he, fun σ env ρ st H Q ev es h => sd_val ha.sd ev es h⟩
theorem sd_truth {K : PySem.W.Frag} {x : D} {v : V} {ρ : List Addr} {st : Sto} {H : Hp} {Q : Bool → Hp → Prop} (e : EV K H ρ x v) (es : ES K G.T H ρ st) (h : PostT K G H ρ Q (truthD x st)) : ∃ k, TruV K v H k ∧ Q k H := by
  cases e with
  | non => exact ⟨false, rfl, h.now rfl es⟩
  | bl b => exact ⟨b, rfl, h.now rfl es⟩
  | int i => exact ⟨_, rfl, h.now rfl es⟩
  | str s =>
    simp only [truthD] at h
    by_cases hs : s.length ≤ sizeLine
    · rw [if_pos hs] at h
      exact ⟨_, ⟨hs, rfl⟩, h.now rfl es⟩
    · rw [if_neg hs] at h
      exact h.elim
  | @tup a ds vs hq r =>
    refine ⟨_, .inr (.inl ⟨vs, hq, rfl⟩), ?_⟩
    have e1 : ds.isEmpty = vs.isEmpty := by cases r <;> rfl
    rw [← e1]
    exact h.now rfl es
  | @ref n a hn =>
    simp only [truthD] at h
    cases hc : st[n]? with
    | none => rw [hc] at h; exact h.elim
    | some c =>
      have q := es.cell n a c hn hc
      rw [hc] at h
      cases c with
      | lst ds =>
        obtain ⟨vs, q1, q2⟩ := q
        refine ⟨_, .inl ⟨vs, .inl (.inl q1), rfl⟩, ?_⟩
        have e1 : ds.isEmpty = vs.isEmpty := by cases q2 <;> rfl
        rw [← e1]
        exact h.now rfl es
      | dct kvs => exact h.elim
      | dtt _ => exact h.elim
      | obj _ _ => exact h.elim
  | @kl a ds vs hq r =>
    refine ⟨_, .inl ⟨vs, hq.l, rfl⟩, ?_⟩
    have e1 : ds.isEmpty = vs.isEmpty := by cases r <;> rfl
    rw [← e1]
    exact h.now rfl es
  | ty n => exact h.elim
  | ob a => exact h.elim
theorem st_truth (ha : SE X G a ta ma) (he : ∀ whole, isTrue a X.env whole = (do let v ← whole; standAt a.pos; holding [v] (truthy v)) := by intro _; rfl) : ST X G a (fun σ H Q => ta σ H fun x H' => ∃ k, TruV X.K x H' k ∧ Q k H') (tTru ma) :=
  ⟨pt_truth ha.pe he, fun σ env ρ st H Q ev es h => ha.sd σ env ρ st H _ ev es (h.bind fun x st1 ρ1 H1 vx f1 e1 es1 h1 => sd_truth e1 es1 h1)⟩
theorem st_not (ha : ST X G a tt mt) : ST X G (.UnaryOp .Not a pos) (tNot tt) (tNotD mt) := ⟨pt_not ha.pe, fun σ env ρ st H Q ev es h => by
  refine ha.sd σ env ρ st H _ ev es (h.bind fun x st1 ρ1 H1 vx f1 e1 es1 h1 => ?_)
  subst e1
  exact h1.now rfl es1⟩
theorem sw_and1 (ha : ST X G a tt mt) : SW X G (.BoolOp .And [a] pos) tt mt := ⟨pw_and1 ha.pe, ha.sd⟩
theorem sw_or1 (ha : ST X G a tt mt) : SW X G (.BoolOp .Or [a] pos) tt mt := ⟨pw_or1 ha.pe, ha.sd⟩
theorem sw_and {rest : List Expr} (ha : ST X G a tt mt) (hb : SW X G (.BoolOp .And (b :: rest) pos) tu mu) : SW X G (.BoolOp .And (a :: b :: rest) pos) (tAnd tt tu) (tAndD mt mu) := ⟨pw_and ha.pe hb.pe, fun σ env ρ st H Q ev es h => by
  refine ha.sd σ env ρ st H _ ev es (h.bind fun x st1 ρ1 H1 vx f1 e1 es1 h1 => ?_)
  subst e1
  cases x with
  | true => exact hb.sd σ env ρ1 st1 H1 Q (ev.mono f1) es1 h1
  | false => exact h1.now rfl es1⟩
theorem sw_or {rest : List Expr} (ha : ST X G a tt mt) (hb : SW X G (.BoolOp .Or (b :: rest) pos) tu mu) : SW X G (.BoolOp .Or (a :: b :: rest) pos) (tOr tt tu) (tOrD mt mu) := ⟨pw_or ha.pe hb.pe, fun σ env ρ st H Q ev es h => by
  refine ha.sd σ env ρ st H _ ev es (h.bind fun x st1 ρ1 H1 vx f1 e1 es1 h1 => ?_)
  subst e1
  cases x with
  | false => exact hb.sd σ env ρ1 st1 H1 Q (ev.mono f1) es1 h1
  | true => exact h1.now rfl es1⟩
/-! arguments, displays -/
theorem sa_nil : SA X G [] tNil aNil := ⟨pa_nil, fun σ env ρ st H Q ev es h => h.now .nil es⟩
theorem sa_cons (ha : SE X G a ta ma) (hr : SA X G es tas mas) (hs : starEach (a :: es) X.env = (false, eval a X.env) :: starEach es X.env := by rfl) : SA X G (a :: es) (tCons ta tas) (aCons ma mas) := ⟨pa_cons ha.pe hr.pe hs, fun σ env ρ st H Q ev es h => by
  refine ha.sd σ env ρ st H _ ev es (h.bind fun x st1 ρ1 H1 vx f1 e1 es1 h1 => ?_)
  refine hr.sd σ env ρ1 st1 H1 _ (ev.mono f1) es1 (h1.bind fun xs st2 ρ2 H2 vs f2 e2 es2 h2 => ?_)
  exact h2.now (.cons (e1.mono f2) e2) es2⟩
theorem line5 : 100000 ≤ sizeLine := by rw [sizeLine_eq]; decide
theorem se_tup {x1} (h : SA X G es tas mas) : SE X G (.Tuple es x1 pos) (tTup tas) (dTup mas) := ⟨pe_tup h.pe, fun σ env ρ st H Q ev es hp => by
  refine h.sd σ env ρ st H _ ev es (hp.bind fun xs st1 ρ1 H1 vs f1 e1 es1 h1 => ?_)
  by_cases hl : xs.length ≤ 100000
  · rw [if_pos hl] at h1
    exact ⟨by rw [← e1.length]; exact Nat.le_trans hl line5, fun p hp => h1 ρ1 _ _ (Fr.laid hp) (.tup (.inl (.inl upd_same)) (e1.mono (Fr.laid hp))) (es1.laid hp)⟩
  · rw [if_neg hl] at h1
    exact h1.elim⟩
theorem ES.ref {K : PySem.W.Frag} {H : Hp} {ρ : List Addr} {st : Sto} (e : ES K G.T H ρ st) (p : Addr) : (ρ ++ [p])[st.length]? = some p := by
  rw [← e.len, List.getElem?_append_right (Nat.le_refl _), Nat.sub_self]
  rfl
theorem se_lst (h : SA X G es tas mas) : SE X G (.List es pos) (tLst tas) (dLst mas) := ⟨pe_lst h.pe, fun σ env ρ st H Q ev es hp => by
  refine h.sd σ env ρ st H _ ev es (hp.bind fun xs st1 ρ1 H1 vs f1 e1 es1 h1 => ?_)
  by_cases hl : xs.length ≤ 100000
  · rw [if_pos hl] at h1
    exact ⟨by rw [← e1.length]; exact Nat.le_trans hl line5, fun p hp => h1 (ρ1 ++ [p]) _ _ (Fr.laidS hp) (.ref (es1.ref p)) (es1.lay hp e1)⟩
  · rw [if_neg hl] at h1
    exact h1.elim⟩
/-! calls of built-ins -/
theorem se_callB {x : Str} {p : Pos} {id : String} {rc : List V → Hp → VK → Prop} {fn : FN} (hc : CallR X (.builtin id) rc) (hs : CallS X.K G rc fn) (hg : Gl X x) (hm : X.mg x = none) (hv : bootBuiltins x = some (.builtin id)) (ha : SA X G (e :: es) tas mas) (hn : x ≠ "__name__" := by decide) (hdb : (x == ("__debug__" : Str)) = false := by decide)
    (he : starEach (e :: es) X.env = (false, eval e X.env) :: starEach es X.env := by rfl) (hpl : (backTo pos (starEach es X.env)).any (·.1) = false := by rfl) : SE X G (.Call (.Name x p) (e :: es) [] pos) (tCB rc tas) (dCall fn mas) :=
  ⟨pe_callB hc hg hm hv ha.pe hn hdb he hpl, fun σ env ρ st H Q ev es h => ha.sd σ env ρ st H _ ev es (h.bind fun xs st1 ρ1 H1 vs f1 e1 es1 h1 => hs xs vs ρ1 st1 H1 Q e1 es1 h1)⟩
theorem se_callTy {x : Str} {p : Pos} {T : String} {rc : List V → Hp → VK → Prop} {fn : FN} (hc : CallR X (.type T) rc) (hs : CallS X.K G rc fn) (hg : Gl X x) (hm : X.mg x = none) (hv : bootBuiltins x = some (.type T)) (ha : SA X G (e :: es) tas mas) (hn : x ≠ "__name__" := by decide) (hdb : (x == ("__debug__" : Str)) = false := by decide)
    (he : starEach (e :: es) X.env = (false, eval e X.env) :: starEach es X.env := by rfl) (hpl : (backTo pos (starEach es X.env)).any (·.1) = false := by rfl) : SE X G (.Call (.Name x p) (e :: es) [] pos) (tCB rc tas) (dCall fn mas) :=
  ⟨pe_callTy hc hg hm hv ha.pe hn hdb he hpl, fun σ env ρ st H Q ev es h => ha.sd σ env ρ st H _ ev es (h.bind fun xs st1 ρ1 H1 vs f1 e1 es1 h1 => hs xs vs ρ1 st1 H1 Q e1 es1 h1)⟩
theorem se_callM {x : Str} {p : Pos} {id : String} {rc : List V → Hp → VK → Prop} {fn : FN} (hc : CallR X (.builtin id) rc) (hs : CallS X.K G rc fn) (hg : Gl X x) (hm : X.mg x = some (.builtin id)) (ha : SA X G (e :: es) tas mas) (hdb : (x == ("__debug__" : Str)) = false := by decide)
    (he : starEach (e :: es) X.env = (false, eval e X.env) :: starEach es X.env := by rfl) (hpl : (backTo pos (starEach es X.env)).any (·.1) = false := by rfl) : SE X G (.Call (.Name x p) (e :: es) [] pos) (tCB rc tas) (dCall fn mas) :=
  ⟨pe_callBfun hc hg hm ha.pe hdb he hpl, fun σ env ρ st H Q ev es h => ha.sd σ env ρ st H _ ev es (h.bind fun xs st1 ρ1 H1 vs f1 e1 es1 h1 => hs xs vs ρ1 st1 H1 Q e1 es1 h1)⟩
end
end Dn

set_option Elab.async false
set_option linter.all false
set_option maxRecDepth 100000
set_option maxHeartbeats 2000000
/-! Statements, loops, comprehensions, calls of defs. -/
namespace Dn
open PySem L2

inductive O where
  | nx (env : Ev) (st : Sto) | rt (d : D) (st : Sto) | bk (env : Ev) (st : Sto) | ct (env : Ev) (st : Sto) | er (n : Nat) (st : Sto) | no
def PostS (K : PySem.W.Frag) (G : Gx) (H : Hp) (ρ : List Addr) (Z : Ends) : O → Prop
  | .nx env st => ∀ ρ' H' σ', Fr H ρ H' ρ' → EVo K H' ρ' env σ' → ES K G.T H' ρ' st → Z.nx σ' H'
  | .bk env st => ∀ ρ' H' σ', Fr H ρ H' ρ' → EVo K H' ρ' env σ' → ES K G.T H' ρ' st → Z.bk σ' H'
  | .ct env st => ∀ ρ' H' σ', Fr H ρ H' ρ' → EVo K H' ρ' env σ' → ES K G.T H' ρ' st → Z.ct σ' H'
  | .rt d st => ∀ ρ' H' v, Fr H ρ H' ρ' → EV K H' ρ' d v → ES K G.T H' ρ' st → Z.rt v H'
  | .er n st => ∀ ρ' H', Fr H ρ H' ρ' → ES K G.T H' ρ' st → G.E (.ref (G.C n)) none H'
  | .no => False
/-- an expression, then what is made of its value -/
def R.toS {α : Type} (r : R α) (f : α → Sto → O) : O := match r with
  | .ok a st => f a st
  | .er n st => .er n st
  | .no => .no
@[simp] theorem R.toS_ok {α : Type} (a : α) (st : Sto) (f : α → Sto → O) : (R.ok a st).toS f = f a st := rfl
@[simp] theorem R.toS_er {α : Type} (n : Nat) (st : Sto) (f : α → Sto → O) : (R.er n st).toS f = .er n st := rfl
@[simp] theorem R.toS_no {α : Type} (f : α → Sto → O) : (R.no : R α).toS f = .no := rfl
def O.thn (o : O) (f : Ev → Sto → O) : O := match o with
  | .nx env st => f env st
  | o => o
@[simp] theorem O.thn_nx (env : Ev) (st : Sto) (f : Ev → Sto → O) : (O.nx env st).thn f = f env st := rfl
@[simp] theorem O.thn_rt (d : D) (st : Sto) (f : Ev → Sto → O) : (O.rt d st).thn f = .rt d st := rfl
@[simp] theorem O.thn_bk (env : Ev) (st : Sto) (f : Ev → Sto → O) : (O.bk env st).thn f = .bk env st := rfl
@[simp] theorem O.thn_ct (env : Ev) (st : Sto) (f : Ev → Sto → O) : (O.ct env st).thn f = .ct env st := rfl
@[simp] theorem O.thn_er (n : Nat) (st : Sto) (f : Ev → Sto → O) : (O.er n st).thn f = .er n st := rfl
@[simp] theorem O.thn_no (f : Ev → Sto → O) : O.no.thn f = .no := rfl

section
variable {K : PySem.W.Frag} {G : Gx} {H H1 : Hp} {ρ ρ1 : List Addr} {Z Z' : Ends}
theorem PostS.shift {o : O} (f : Fr H ρ H1 ρ1) (h : PostS K G H ρ Z o) : PostS K G H1 ρ1 Z o := by
  cases o with
  | nx env st => exact fun ρ' H' σ' g => h ρ' H' σ' (f.trans g)
  | bk env st => exact fun ρ' H' σ' g => h ρ' H' σ' (f.trans g)
  | ct env st => exact fun ρ' H' σ' g => h ρ' H' σ' (f.trans g)
  | rt d st => exact fun ρ' H' v g => h ρ' H' v (f.trans g)
  | er n st => exact fun ρ' H' g => h ρ' H' (f.trans g)
  | no => exact h
theorem PostS.bindR {α β : Type} {Rel : Hp → List Addr → α → β → Prop} {Q : β → Hp → Prop} {r : R α} {k : α → Sto → O} (h : PostS K G H ρ Z (r.toS k))
    (hk : ∀ a st1 ρ1 H1 b, Fr H ρ H1 ρ1 → Rel H1 ρ1 a b → ES K G.T H1 ρ1 st1 → PostS K G H1 ρ1 Z (k a st1) → Q b H1) : Post Rel K G.T G.C H ρ Q G.E r := by
  cases r with
  | ok a st1 => exact fun ρ1 H1 b f r e => hk a st1 ρ1 H1 b f r e (PostS.shift f h)
  | er n st1 => exact h
  | no => exact h
theorem PostS.thn {o : O} {k : Ev → Sto → O} {u : L2.St → Hp → Prop} (h : PostS K G H ρ Z (o.thn k))
    (hk : ∀ env1 st1 ρ1 H1 σ1, Fr H ρ H1 ρ1 → EVo K H1 ρ1 env1 σ1 → ES K G.T H1 ρ1 st1 → PostS K G H1 ρ1 Z (k env1 st1) → u σ1 H1) : PostS K G H ρ { Z with nx := u } o := by
  cases o with
  | nx env st => exact fun ρ1 H1 σ1 f ev es => hk env st ρ1 H1 σ1 f ev es (PostS.shift f h)
  | bk env st => exact h
  | ct env st => exact h
  | rt d st => exact h
  | er n st => exact h
  | no => exact h
end

abbrev MS := Ev → Sto → O
structure SS (X : Cx) (G : Gx) (s : Stmt) (t : TS) (m : MS) : Prop where
  pe : PS X s t
  sd : ∀ (σ : L2.St) (env : Ev) (ρ : List Addr) (st : Sto) (H : Hp) (Z : Ends), EVo X.K H ρ env σ → ES X.K G.T H ρ st → PostS X.K G H ρ Z (m env st) → t Z σ H
structure SSs (X : Cx) (G : Gx) (s : List Stmt) (t : TS) (m : MS) : Prop where
  pe : PSs X s t
  sd : ∀ (σ : L2.St) (env : Ev) (ρ : List Addr) (st : Sto) (H : Hp) (Z : Ends), EVo X.K H ρ env σ → ES X.K G.T H ρ st → PostS X.K G H ρ Z (m env st) → t Z σ H

def sNext : MS := fun env st => .nx env st
def sSeq (a b : MS) : MS := fun env st => (a env st).thn b
def sBreak : MS := fun env st => .bk env st
def sCont : MS := fun env st => .ct env st
def sDrop (a : ME) : MS := fun env st => (a env st).toS fun _ st => .nx env st
def sRet (a : ME) : MS := fun env st => (a env st).toS fun d st => .rt d st
def sRetN : MS := fun _ st => .rt .non st
def sIf (t : MT) (a b : MS) : MS := fun env st => (t env st).toS fun k st => if k = true then a env st else b env st
def sNo : MS := fun _ _ => .no
def sRaise (n : Nat) : MS := fun _ st => .er n st
/-- a target -/
abbrev MG := D → Ev → Sto → R Ev
abbrev MGs := List D → Ev → Sto → R Ev
abbrev PostG (K : PySem.W.Frag) (G : Gx) (H : Hp) (ρ : List Addr) (Q : L2.St → Hp → Prop) (r : R Ev) : Prop := Post (EVo K) K G.T G.C H ρ Q G.E r
structure SG (X : Cx) (G : Gx) (e : Expr) (g : TG) (m : MG) : Prop where
  pe : PG X e g
  sd : ∀ (d : D) (v : V) (σ : L2.St) (env : Ev) (ρ : List Addr) (st : Sto) (H : Hp) (Q : L2.St → Hp → Prop), EV X.K H ρ d v → EVo X.K H ρ env σ → ES X.K G.T H ρ st → PostG X.K G H ρ Q (m d env st) → g v σ H Q
structure SGs (X : Cx) (G : Gx) (es : List Expr) (g : TGs) (m : MGs) : Prop where
  pe : PGs X es g
  sd : ∀ (ds : List D) (vs : List V) (σ : L2.St) (env : Ev) (ρ : List Addr) (st : Sto) (H : Hp) (Q : L2.St → Hp → Prop), EVs X.K H ρ ds vs → EVo X.K H ρ env σ → ES X.K G.T H ρ st → PostG X.K G H ρ Q (m ds env st) → g vs σ H Q
def mName (i : Nat) : MG := fun d env st => .ok (env.set i (some d)) st
def mNil : MGs := fun ds env st => match ds with
  | [] => .ok env st
  | _ => .no
def mCons (g : MG) (gs : MGs) : MGs := fun ds env st => match ds with
  | d :: r => (g d env st).bind fun env st => gs r env st
  | [] => .no
def mTup (n : Nat) (gs : MGs) : MG := fun d env st => match d with
  | .tup ds => if ds.length = n then gs ds env st else .no
  | _ => .no
def mSub (a b : ME) (f : D → D → D → Sto → R Unit) : MG := fun d env st => (a env st).bind fun o st => (b env st).bind fun i st => (f o i d st).bind fun _ st => .ok env st
def sAsg (a : ME) (g : MG) : MS := fun env st => (a env st).toS fun d st => (g d env st).toS fun env st => .nx env st
def sPar (i j : Nat) (as : MA) : MS := fun env st => (as env st).toS fun ds st => match ds with
  | [d, e] => .nx ((env.set i (some d)).set j (some e)) st
  | _ => .no
def SetS (K : PySem.W.Frag) (G : Gx) (r : TSet) (f : D → D → D → Sto → R Unit) : Prop :=
  ∀ (o i d : D) (vo vi vd : V) (ρ : List Addr) (st : Sto) (H : Hp) (Q : Hp → Prop), EV K H ρ o vo → EV K H ρ i vi → EV K H ρ d vd → ES K G.T H ρ st → Post (fun _ _ (_ : Unit) (_ : Unit) => True) K G.T G.C H ρ (fun _ H => Q H) G.E (f o i d st) → r vo vi vd H Q

section
variable {X : Cx} {G : Gx} {a b c e : Expr} {es : List Expr} {ta tb tc te : TE} {tas : TA} {tt : TT} {ma mb mc me : ME} {mas : MA} {mt : MT} {pos : Pos} {s : Stmt} {ss : List Stmt} {ts tr tu : TS} {ms mr mu : MS} {g : TG} {gs : TGs} {mg : MG} {mgs : MGs}
theorem sss_nil : SSs X G [] tNext sNext := ⟨pss_nil, fun σ env ρ st H Z ev es h => h ρ H σ (Fr.refl H ρ) ev es⟩
theorem sss_cons (h1 : SS X G s ts ms) (h2 : SSs X G ss tr mr) : SSs X G (s :: ss) (tSeq ts tr) (sSeq ms mr) := ⟨pss_cons h1.pe h2.pe, fun σ env ρ st H Z ev es h =>
  h1.sd σ env ρ st H _ ev es (h.thn fun env1 st1 ρ1 H1 σ1 f ev1 es1 q => h2.sd σ1 env1 ρ1 st1 H1 Z ev1 es1 q)⟩
theorem sss_one (h1 : SS X G s ts ms) : SSs X G [s] ts ms := ⟨pss_one h1.pe, h1.sd⟩
theorem ss_pass : SS X G (.Pass pos) tNext sNext := ⟨ps_pass, fun σ env ρ st H Z ev es h => h ρ H σ (Fr.refl H ρ) ev es⟩
theorem ss_break : SS X G (.Break pos) tBreak sBreak := ⟨ps_break, fun σ env ρ st H Z ev es h => h ρ H σ (Fr.refl H ρ) ev es⟩
theorem ss_continue : SS X G (.Continue pos) tCont sCont := ⟨ps_continue, fun σ env ρ st H Z ev es h => h ρ H σ (Fr.refl H ρ) ev es⟩
theorem ss_doc {x j p p'} : SS X G (.Expr (.Constant (.str x) j p) p') tNext sNext := ⟨ps_doc, fun σ env ρ st H Z ev es h => h ρ H σ (Fr.refl H ρ) ev es⟩
theorem ss_expr (ha : SE X G a ta ma) (hs : swapsWith a none pos.line X.env = pure false := by rfl) : SS X G (.Expr a pos) (tDrop ta) (sDrop ma) := ⟨ps_expr ha.pe hs, fun σ env ρ st H Z ev es h =>
  ha.sd σ env ρ st H _ ev es (h.bindR fun d st1 ρ1 H1 v f e1 es1 q => q ρ1 H1 σ (Fr.refl H1 ρ1) (ev.mono f) es1)⟩
theorem ss_ret (ha : SE X G a ta ma) : SS X G (.Return (some a) pos) (tRet ta) (sRet ma) := ⟨ps_ret ha.pe, fun σ env ρ st H Z ev es h =>
  ha.sd σ env ρ st H _ ev es (h.bindR fun d st1 ρ1 H1 v f e1 es1 q => q ρ1 H1 v (Fr.refl H1 ρ1) e1 es1)⟩
theorem ss_retN : SS X G (.Return none pos) tRetN sRetN := ⟨ps_retN, fun σ env ρ st H Z ev es h => h ρ H .non (Fr.refl H ρ) .non es⟩
theorem ss_if {ss' : List Stmt} (ht : ST X G c tt mt) (h1 : SSs X G ss ts ms) (h2 : SSs X G ss' tr mr) : SS X G (.If c ss ss' pos) (tIfS tt ts tr) (sIf mt ms mr) := ⟨ps_if ht.pe h1.pe h2.pe, fun σ env ρ st H Z ev es h => by
  refine ht.sd σ env ρ st H _ ev es (h.bindR fun k st1 ρ1 H1 k' f e1 es1 q => ?_)
  subst e1
  cases k with
  | true => exact h1.sd σ env ρ1 st1 H1 Z (ev.mono f) es1 q
  | false => exact h2.sd σ env ρ1 st1 H1 Z (ev.mono f) es1 q⟩
theorem ss_never : SS X G s tNever sNo := ⟨ps_never, fun _ _ _ _ _ _ _ _ h => h⟩
/-! targets -/
theorem sg_name (i : Nat) {x : Str} (hN : X.N.Nodup) (hi : X.N[i]? = some x := by rfl) (hx : Loc X.env.scope x := by first | exact Or.inl rfl | exact Or.inr rfl) (hf : X.fn x = true ∨ X.env.scope.names.lookup x = some .local := by first | exact .inl rfl | exact .inr rfl | assumption) : SG X G (.Name x pos) (gName i) (mName i) :=
  ⟨pg_name hN hi hx hf, fun d v σ env ρ st H Q hd ev es h => h.now (ev.set hd i) es⟩
theorem sgs_nil : SGs X G [] gNil mNil := ⟨pgs_nil, fun ds vs σ env ρ st H Q hd ev es h => by
  cases hd with
  | nil => exact ⟨rfl, h.now ev es⟩
  | cons _ _ => exact h.elim⟩
theorem sgs_cons (h1 : SG X G e g mg) (h2 : SGs X G es gs mgs) (hs : (assignEach (e :: es) X.env).map (·.2) = assign e X.env :: (assignEach es X.env).map (·.2) := by rfl) : SGs X G (e :: es) (gCons g gs) (mCons mg mgs) := ⟨pgs_cons h1.pe h2.pe hs, fun ds vs σ env ρ st H Q hd ev es h => by
  cases hd with
  | nil => exact h.elim
  | @cons d v ds vs hd hr =>
    refine ⟨v, vs, rfl, h1.sd d v σ env ρ st H _ hd ev es (h.bind fun env1 st1 ρ1 H1 σ1 f ev1 es1 q => ?_)⟩
    exact h2.sd ds vs σ1 env1 ρ1 st1 H1 Q (hr.mono f) ev1 es1 q⟩
theorem sg_tup {k : Nat} {n : Nat} (hc : X.calm = true) (h : SGs X G es gs mgs) (hn : (assignEach es X.env).length = n := by rfl) (hst : (assignEach es X.env).findIdx? (·.1) = none := by rfl) : SG X G (.Tuple es k pos) (gTup X.K n gs) (mTup n mgs) :=
  ⟨pg_tup hc h.pe hn hst, fun d v σ env ρ st H Q hd ev es q => by
  cases hd with
  | @tup a ds vs hq hr =>
    simp only [mTup] at q
    by_cases hl : ds.length = n
    · rw [if_pos hl] at q
      exact ⟨a, vs, rfl, hq, by rw [← hr.length]; exact hl, h.sd ds vs σ env ρ st H Q hr ev es q⟩
    · rw [if_neg hl] at q
      exact q.elim
  | _ => exact q.elim⟩
theorem sg_sub {rs : TSet} {f : D → D → D → Sto → R Unit} (ha : SE X G a ta ma) (hb : SE X G b tb mb) (hp : PSet X rs) (hs : SetS X.K G rs f)
    (hh : ∀ v, assign (.Subscript a b pos) X.env v = (do
      let ov ← holding [v] (eval a X.env)
      let iv ← holding [v, ov] (eval b X.env)
      standAt pos
      holding [v, ov, iv] (setItem ov iv v)
      release [v, ov, iv] []) := by intro _; rfl) : SG X G (.Subscript a b pos) (gSub ta tb rs) (mSub ma mb f) := ⟨pg_sub ha.pe hb.pe hp hh, fun d v σ env ρ st H Q hd ev es h => by
  refine ha.sd σ env ρ st H _ ev es (h.bind fun o st1 ρ1 H1 vo f1 e1 es1 h1 => ?_)
  refine hb.sd σ env ρ1 st1 H1 _ (ev.mono f1) es1 (h1.bind fun i st2 ρ2 H2 vi f2 e2 es2 h2 => ?_)
  refine hs o i d vo vi v ρ2 st2 H2 _ (e1.mono f2) e2 (hd.mono (f1.trans f2)) es2 (h2.bind fun _ st3 ρ3 H3 _ f3 _ es3 h3 => ?_)
  exact h3.now (ev.mono ((f1.trans f2).trans f3)) es3⟩
theorem ss_asg (ha : SE X G a ta ma) (hg : SG X G e g mg) (hs : swapsWithSole [e] a pos.line X.env = pure false := by rfl) (hw : swappedStores [e] a X.env = pure none := by rfl) (h1 : (assignEach [e] X.env).map (·.2) = [assign e X.env] := by rfl) : SS X G (.Assign [e] a pos) (L2.tAsg ta g) (sAsg ma mg) :=
  ⟨ps_asg ha.pe hg.pe hs hw h1, fun σ env ρ st H Z ev es h => ha.sd σ env ρ st H _ ev es (h.bindR fun d st1 ρ1 H1 v f e1 es1 q =>
    hg.sd d v σ env ρ1 st1 H1 _ e1 (ev.mono f) es1 (q.bindR fun env2 st2 ρ2 H2 σ2 f2 ev2 es2 q2 => q2 ρ2 H2 σ2 (Fr.refl H2 ρ2) ev2 es2))⟩
theorem ss_set (i : Nat) {x : Str} {pos' : Pos} (hN : X.N.Nodup) (ha : SE X G a ta ma) (hi : X.N[i]? = some x := by rfl) (hx : Loc X.env.scope x := by first | exact Or.inl rfl | exact Or.inr rfl) (hs : swapsWith a (some (.Name x pos')) pos.line X.env = pure false := by rfl) (hf : X.fn x = true ∨ X.env.scope.names.lookup x = some .local := by first | exact .inl rfl | exact .inr rfl | assumption) :
    SS X G (.Assign [.Name x pos'] a pos) (L2.tAsg ta (gName i)) (sAsg ma (mName i)) := ⟨ps_set hN hi hx ha.pe hs hf, fun σ env ρ st H Z ev es h => ha.sd σ env ρ st H _ ev es (h.bindR fun d st1 ρ1 H1 v f e1 es1 q =>
    q ρ1 H1 _ (Fr.refl H1 ρ1) ((ev.mono f).set e1 i) es1)⟩
theorem ss_par (i j : Nat) {x y : Str} {px py pt : Pos} {kt k2 pt2} (hc : X.calm = true) (hN : X.N.Nodup) (ha : SA X G [a, b] tas mas) (hi : X.N[i]? = some x := by rfl) (hj : X.N[j]? = some y := by rfl) (hij : i ≠ j := by decide)
    (hx : X.env.scope.names.lookup x = some .local := by rfl) (hy : X.env.scope.names.lookup y = some .local := by rfl) (hw : swappedStores [.Tuple [.Name x px, .Name y py] kt pt] (.Tuple [a, b] k2 pt2) X.env = pure (some [x, y]) := by rfl)
    (hs : swapsWithSole [.Tuple [.Name x px, .Name y py] kt pt] (.Tuple [a, b] k2 pt2) pos.line X.env = pure false := by rfl) :
    SS X G (.Assign [.Tuple [.Name x px, .Name y py] kt pt] (.Tuple [a, b] k2 pt2) pos) (tPar i j tas) (sPar i j mas) := ⟨ps_par hc hN hi hj hij hx hy ha.pe hw hs, fun σ env ρ st H Z ev es h => ha.sd σ env ρ st H _ ev es (h.bindR fun ds st1 ρ1 H1 vs f e1 es1 q => by
  cases e1 with
  | nil => exact q.elim
  | @cons d v ds vs e1 r1 =>
    cases r1 with
    | nil => exact q.elim
    | @cons d2 v2 ds vs e2 r2 =>
      cases r2 with
      | nil => exact ⟨v, v2, rfl, q ρ1 H1 _ (Fr.refl H1 ρ1) (((ev.mono f).set e1 i).set e2 j) es1⟩
      | cons _ _ => exact q.elim)⟩
end
end Dn

set_option Elab.async false
set_option linter.all false
set_option maxRecDepth 100000
set_option maxHeartbeats 2000000
/-! Loops, comprehensions, defs. -/
namespace Dn
open PySem PySem.Spec PyProof.Rows L2

/-! ### defs -/
/-- the promise of a def that makes M of data: n arguments -/
def spM (K : PySem.W.Frag) (T : List (Addr × Str)) (C : Nat → Addr) (n : Nat) (M : FN) : Sp := fun vs H Q E => ∃ (xs : List D) (ρ : List Addr) (st : Sto), xs.length = n ∧ EVs K H ρ xs vs ∧ ES K T H ρ st ∧ Post (EV K) K T C H ρ Q E (M xs st)
def O.res : O → R D
  | .rt d st => .ok d st
  | .nx _ st => .ok .non st
  | .er n st => .er n st
  | _ => .no
def startE (N : Nat) (xs : List D) : Ev := xs.map some ++ List.replicate (N - xs.length) none
/-- the whole result r, told as r': newer objects forgotten -/
inductive Tells (st0 : Sto) : R D → R D → Prop where
  | no (r : R D) : Tells st0 r .no
  | same (r : R D) : Tells st0 r r
  /-- the store is as it was -/
  | ok (d : D) (g : Sto) (h : d.cl st0.length = true) : Tells st0 (.ok d (st0 ++ g)) (.ok d st0)
  | er (n : Nat) (g : Sto) : Tells st0 (.er n (st0 ++ g)) (.er n st0)
  /-- the store has changed -/
  | okC (d : D) (st g : Sto) (hl : st0.length ≤ st.length) (h : d.cl st.length = true) (hc : ∀ c ∈ st, c.cl st.length = true) : Tells st0 (.ok d (st ++ g)) (.ok d st)
  | erC (n : Nat) (st g : Sto) (hl : st0.length ≤ st.length) (hc : ∀ c ∈ st, c.cl st.length = true) : Tells st0 (.er n (st ++ g)) (.er n st)
theorem Fr.cut {H H' : Hp} {ρ ρ' : List Addr} (f : Fr H ρ H' ρ') {n : Nat} (hl : ρ.length ≤ n) : Fr H ρ H' (ρ'.take n) := by
  obtain ⟨l, e⟩ := f.pre
  refine ⟨⟨l.take (n - ρ.length), ?_⟩, f.keep, f.tup, f.frz, fun a h n => f.new a (List.mem_of_mem_take h) n⟩
  rw [e, List.take_append, List.take_of_length_le hl]
theorem Post.tells {K : PySem.W.Frag} {T : List (Addr × Str)} {C : Nat → Addr} {H : Hp} {ρ : List Addr} {Q : VK} {E : XK} {st : Sto} {r r' : R D} (es : ES K T H ρ st) (t : Tells st r r') (h : Post (EV K) K T C H ρ Q E r') : Post (EV K) K T C H ρ Q E r := by
  cases t with
  | no => exact h.elim
  | same => exact h
  | ok d g hd =>
    intro ρ' H' v f ev e1
    obtain ⟨l, hp⟩ := id f.pre
    subst hp
    exact h ρ H' v f.back (ev.shrink (by rw [es.len]; exact hd)) (es.same f e1)
  | er n g =>
    intro ρ' H' f e1
    exact h ρ H' f.back (es.same f e1)
  | okC d st1 g hl hd hc =>
    intro ρ' H' v f ev e1
    have hl' : ρ.length ≤ st1.length := by rw [es.len]; exact hl
    have hn : st1.length ≤ ρ'.length := by rw [e1.len, List.length_append]; omega
    have ht : (ρ'.take st1.length).length = st1.length := by rw [List.length_take]; omega
    have e2 : ρ' = ρ'.take st1.length ++ ρ'.drop st1.length := (List.take_append_drop _ _).symm
    refine h (ρ'.take st1.length) H' v (f.cut hl') ?_ (e1.pre ⟨_, e2⟩ ht hc)
    rw [e2] at ev
    exact ev.shrink (by rw [ht]; exact hd)
  | erC n st1 g hl hc =>
    intro ρ' H' f e1
    have hl' : ρ.length ≤ st1.length := by rw [es.len]; exact hl
    have hn : st1.length ≤ ρ'.length := by rw [e1.len, List.length_append]; omega
    have ht : (ρ'.take st1.length).length = st1.length := by rw [List.length_take]; omega
    exact h (ρ'.take st1.length) H' (f.cut hl') (e1.pre ⟨_, (List.take_append_drop _ _).symm⟩ ht hc)
theorem EVs.start {K : PySem.W.Frag} {H : Hp} {ρ : List Addr} {N : List Str} {xs : List D} {vs : List V} (h : EVs K H ρ xs vs) : EVo K H ρ (startE N.length xs) (L2.start N vs) := by
  have hl := h.length
  refine ⟨?_, fun i d hi => ?_⟩
  · unfold startE L2.start
    rw [List.length_append, List.length_append, List.length_map, List.length_map, List.length_replicate, List.length_replicate, hl]
  · unfold startE at hi
    unfold L2.start
    by_cases hx : i < xs.length
    · rw [List.getElem?_append_left (by rw [List.length_map]; exact hx), List.getElem?_map] at hi
      cases e : xs[i]? with
      | none => rw [e] at hi; cases hi
      | some x =>
        rw [e] at hi
        cases hi
        obtain ⟨v, h1, h2⟩ := h.get e
        refine ⟨v, ?_, h2⟩
        rw [List.getElem?_append_left (by rw [List.length_map, ← hl]; exact hx), List.getElem?_map, h1]
        rfl
    · rw [List.getElem?_append_right (by rw [List.length_map]; omega)] at hi
      have z := List.mem_of_getElem? hi
      rw [List.mem_replicate] at z
      cases z.2

section
variable {P : Program} {w : World} {K : PySem.W.Frag} {T : List (Addr × Str)} {mg : Str → Option Value} {base : Heap}
/-- THE RULE of a def: its body makes m of data; M tells what m gives -/
theorem fun_ok {x qual : Str} {st : Stmt} {f : Addr} {fd : FuncData} {N ps : List Str} {k : Nat} {C : Nat → Addr} {M : FN} {m : MS} {n : Nat} (F : Fun K x qual st f fd) (S : FnScope N ps (defScope st)) (hn : ps.length = n := by rfl)
    (hbody : ∀ (cdv : Value) (A : Around) (outer : List Env) (s : Shared) (H : Hp) (E : XK), Room k (A.deeper (envOfC qual (defScope st) s.heap.objs.size f cdv)) →
      ∃ t, SSs (cxOf (L2N.CX P w) P w K mg base N qual (defScope st) f cdv A outer s H E) ⟨C, T, E⟩ (defBody st) t m)
    (hM : ∀ (xs : List D) (st : Sto), xs.length = n → M xs st ≠ .no → Tells st (m (startE N.length xs) st).res (M xs st)) : FnOk P w K mg base (L2N.CX P w) (k + 1) f fd ps (spM K T C n M) := by
  obtain ⟨oc, od, kV, doc, pm, an, cdv, ct, osl, rfl, lk, hcd⟩ := F.ex
  refine fn_of lk hcd S (fun vs H Q E h => ?_) fun A outer s H vs Q E hr h => ?_
  · obtain ⟨xs, ρ, st, h1, h2, _⟩ := h
    rw [← h2.length, h1, hn]
  · obtain ⟨xs, ρ, st0, h1, h2, h3, h4⟩ := h
    obtain ⟨t, Tt⟩ := hbody cdv A outer s H E hr
    refine ⟨t, Tt.pe, Tt.sd _ (startE N.length xs) ρ st0 H _ h2.start h3 ?_⟩
    have hne : M xs st0 ≠ .no := fun z => by rw [z] at h4; exact h4
    have q := Post.tells h3 (hM xs st0 h1 hne) h4
    cases e : m (startE N.length xs) st0 with
    | rt d st1 => rw [e] at q; exact q
    | nx env st1 =>
      rw [e] at q
      exact fun ρ' H' σ' f _ e1 => q ρ' H' .non f .non e1
    | er n st1 => rw [e] at q; exact q
    | bk _ _ => rw [e] at q; exact q.elim
    | ct _ _ => rw [e] at q; exact q.elim
    | no => rw [e] at q; exact q
end
/-- the arguments of a call, n of them -/
def dFn (n : Nat) (M : FN) : FN := fun xs st => if xs.length = n then M xs st else .no
section
variable {X : Cx} {G : Gx} {a b c e : Expr} {es : List Expr} {ta tb tc te : TE} {tas : TA} {tt : TT} {ma mb mc me : ME} {mas : MA} {mt : MT} {pos p : Pos} {s : Stmt} {ss : List Stmt} {ts tr tu : TS} {ms mr mu : MS} {g : TG} {gs : TGs} {mg : MG} {mgs : MGs}
theorem se_fn {x : Str} {k n : Nat} {f : Addr} {fd : FuncData} {ps : List Str} {M : FN} (F : FnOk X.prog X.w X.K X.mg X.base (L2N.CX X.prog X.w) k f fd ps (spM X.K G.T G.C n M)) (hr : Room k X.A) (hg : Gl X x) (hm : X.mg x = some (.ref f)) (hk : PySem.W.keepIn X.K (.ref f) = true) (hb : L2.Binds X.K fd ps []) (hx : Passes (L2N.CX X.prog X.w) X G.E)
    (ha : SA X G (e :: es) tas mas) (hdb : (x == ("__debug__" : Str)) = false := by decide) (he : starEach (e :: es) X.env = (false, eval e X.env) :: starEach es X.env := by rfl) (hpl : (backTo pos (starEach es X.env)).any (·.1) = false := by rfl) :
    SE X G (.Call (.Name x p) (e :: es) [] pos) (L2.tCall (spM X.K G.T G.C n M) [] G.E tas) (dCall (dFn n M) mas) := ⟨pe_call F hr hg hm hk hb .nil hx ha.pe hdb he hpl, fun σ env ρ st H Q ev es h => by
  refine ha.sd σ env ρ st H _ ev es (h.bind fun xs st1 ρ1 H1 vs f1 e1 es1 h1 => ?_)
  unfold dFn at h1
  by_cases hl : xs.length = n
  · rw [if_pos hl] at h1
    exact ⟨xs, ρ1, st1, hl, by rw [List.append_nil]; exact e1, es1, h1⟩
  · rw [if_neg hl] at h1
    exact h1.elim⟩
theorem se_fn0 {x : Str} {k : Nat} {f : Addr} {fd : FuncData} {ps : List Str} {M : FN} (F : FnOk X.prog X.w X.K X.mg X.base (L2N.CX X.prog X.w) k f fd ps (spM X.K G.T G.C 0 M)) (hr : Room k X.A) (hg : Gl X x) (hm : X.mg x = some (.ref f)) (hk : PySem.W.keepIn X.K (.ref f) = true) (hb : L2.Binds X.K fd ps []) (hx : Passes (L2N.CX X.prog X.w) X G.E)
    (hdb : (x == ("__debug__" : Str)) = false := by decide) : SE X G (.Call (.Name x p) [] [] pos) (L2.tCall (spM X.K G.T G.C 0 M) [] G.E tNil) (dCall (dFn 0 M) aNil) := ⟨pe_call0 F hr hg hm hk hb .nil hx hdb, fun σ env ρ st H Q ev es h => ⟨[], ρ, st, rfl, .nil, es, h⟩⟩
/-- raise X('..') -/
theorem ss_raise {W : WX} (n : Nat) (hc : X.calm = true) (tk : L2N.Takes X W) (hW : ∀ cls d σ H, G.E cls d H → W cls d σ H) (he : L2N.PMk X e (fun _ H Q => Q (.ref (G.C n)) none H)) : SS X G (.Raise (some e) none pos) (fun _ σ H => W (.ref (G.C n)) none σ H) (sRaise n) :=
  ⟨L2N.ps_raise hc tk he, fun σ env ρ st H Z ev es h => hW _ _ _ _ (h ρ H (Fr.refl H ρ) es)⟩

/-! ### while -/
def O.loop (o : O) (f : Ev → Sto → O) : O := match o with
  | .nx env st => f env st
  | .ct env st => f env st
  | .bk env st => .nx env st
  | o => o
@[simp] theorem O.loop_nx (env : Ev) (st : Sto) (f : Ev → Sto → O) : (O.nx env st).loop f = f env st := rfl
@[simp] theorem O.loop_ct (env : Ev) (st : Sto) (f : Ev → Sto → O) : (O.ct env st).loop f = f env st := rfl
@[simp] theorem O.loop_bk (env : Ev) (st : Sto) (f : Ev → Sto → O) : (O.bk env st).loop f = .nx env st := rfl
@[simp] theorem O.loop_rt (d : D) (st : Sto) (f : Ev → Sto → O) : (O.rt d st).loop f = .rt d st := rfl
@[simp] theorem O.loop_er (n : Nat) (st : Sto) (f : Ev → Sto → O) : (O.er n st).loop f = .er n st := rfl
@[simp] theorem O.loop_no (f : Ev → Sto → O) : O.no.loop f = .no := rfl
theorem PostS.loop {K : PySem.W.Frag} {H : Hp} {ρ : List Addr} {Z : Ends} {o : O} {k : Ev → Sto → O} {N : L2.St → Hp → Prop} (h : PostS K G H ρ Z (o.loop k))
    (hk : ∀ env1 st1 ρ1 H1 σ1, Fr H ρ H1 ρ1 → EVo K H1 ρ1 env1 σ1 → ES K G.T H1 ρ1 st1 → PostS K G H1 ρ1 Z (k env1 st1) → N σ1 H1) : PostS K G H ρ { Z with nx := N, ct := N, bk := Z.nx } o := by
  cases o with
  | nx env st => exact fun ρ1 H1 σ1 f ev es => hk env st ρ1 H1 σ1 f ev es (PostS.shift f h)
  | ct env st => exact fun ρ1 H1 σ1 f ev es => hk env st ρ1 H1 σ1 f ev es (PostS.shift f h)
  | bk env st => exact h
  | rt d st => exact h
  | er n st => exact h
  | no => exact h
theorem R.toS_loop {α : Type} (r : R α) (k : α → Sto → O) (f : Ev → Sto → O) : (r.toS k).loop f = r.toS fun a st => (k a st).loop f := by cases r <;> rfl
theorem R.toS_thn {α : Type} (r : R α) (k : α → Sto → O) (f : Ev → Sto → O) : (r.toS k).thn f = r.toS fun a st => (k a st).thn f := by cases r <;> rfl
def sWhileN (c : MT) (b : MS) : Nat → MS
  | 0 => fun _ _ => .no
  | n + 1 => fun env st => (c env st).toS fun k st => if k = true then (b env st).loop (sWhileN c b n) else .nx env st
def sWhile (n : Ev → Sto → Nat) (c : MT) (b : MS) : MS := fun env st => sWhileN c b (n env st) env st
theorem ss_while (n : Ev → Sto → Nat) (hp : PassesOwn (model X.prog X.w) X.A X.env X.xe) (ht : ST X G c tt mt) (hb : SSs X G ss ts ms) : SS X G (.While c ss [] pos) (tWhile tt ts) (sWhile n mt ms) := ⟨ps_while hp ht.pe hb.pe, fun σ env ρ st H Z ev es h => by
  refine ⟨fun i σ H => ∃ env ρ st, EVo X.K H ρ env σ ∧ ES X.K G.T H ρ st ∧ PostS X.K G H ρ Z (sWhileN mt ms i env st), ⟨n env st, env, ρ, st, ev, es, h⟩, ?_⟩
  rintro i σ H ⟨env, ρ, st, ev, es, h⟩
  cases i with
  | zero => exact h.elim
  | succ i =>
    refine ht.sd σ env ρ st H _ ev es (h.bindR fun k st1 ρ1 H1 k' f e1 es1 q => ?_)
    subst e1
    cases k with
    | true =>
      refine ⟨fun σ' H' => ∃ env ρ st, EVo X.K H' ρ env σ' ∧ ES X.K G.T H' ρ st ∧ PostS X.K G H' ρ Z (sWhileN mt ms i env st), fun σ' H' w => ⟨i, Nat.lt_succ_self i, w⟩, ?_⟩
      refine hb.sd σ env ρ1 st1 H1 _ (ev.mono f) es1 (PostS.loop q fun env2 st2 ρ2 H2 σ2 f2 ev2 es2 q2 => ?_)
      exact ⟨env2, ρ2, st2, ev2, es2, q2⟩
    | false => exact q ρ1 H1 σ (Fr.refl H1 ρ1) (ev.mono f) es1⟩

/-! ### for -/
/-- what is walked: at turn i, by the store: not told, the end, an item -/
abbrev Feed := Nat → Sto → Option (Option D)
structure Live (K : PySem.W.Frag) (T : List (Addr × Str)) (H0 : Hp) (ρ0 : List Addr) (J : It) (fd : Feed) : Prop where
  stop : ∀ (H : Hp) (ρ : List Addr) (st : Sto) (i : Nat), Fr H0 ρ0 H ρ → ES K T H ρ st → fd i st = some none → J.stop i H
  go : ∀ (H : Hp) (ρ : List Addr) (st : Sto) (i : Nat) (d : D), Fr H0 ρ0 H ρ → ES K T H ρ st → fd i st = some (some d) → J.go i H ∧ ∀ x H', J.yld i H x H' → Fr H ρ H' ρ ∧ EV K H' ρ d x ∧ ES K T H' ρ st
abbrev MI := Ev → Sto → R (Feed × Nat)
structure SI (X : Cx) (G : Gx) (tg iter : Expr) (wi : TI) (m : MI) : Prop where
  pe : PI X tg iter wi
  sd : ∀ (σ : L2.St) (env : Ev) (ρ : List Addr) (st : Sto) (H : Hp) (Q : It → Hp → Prop), EVo X.K H ρ env σ → ES X.K G.T H ρ st → Post (fun H ρ (f : Feed × Nat) J => Live X.K G.T H ρ J f.1) X.K G.T G.C H ρ Q G.E (m env st) → wi σ H Q
def sForF (fd : Feed) (g : MG) (b : MS) : Nat → Nat → MS
  | 0, i => fun env st => match fd i st with
    | some none => .nx env st
    | _ => .no
  | n + 1, i => fun env st => match fd i st with
    | some none => .nx env st
    | some (some d) => ((g d env st).toS b).loop (sForF fd g b n (i + 1))
    | none => .no
def sFor (it : MI) (g : MG) (b : MS) : MS := fun env st => (it env st).toS fun f st => sForF f.1 g b f.2 0 env st
theorem ss_for {iter tg : Expr} {wi : TI} {mi : MI} (hp : PassesOwn (model X.prog X.w) X.A X.env X.xe) (hc : X.calm = true) (hi : SI X G tg iter wi mi) (hg : SG X G tg g mg) (hb : SSs X G ss ts ms)
    (hps : PS X (.For tg iter ss [] pos) (tFor wi g ts)) : SS X G (.For tg iter ss [] pos) (tFor wi g ts) (sFor mi mg ms) := ⟨hps, fun σ env ρ st H Z ev es h => by
  refine hi.sd σ env ρ st H _ ev es (h.bindR fun f st1 ρ1 H1 J f1 L es1 q => ?_)
  obtain ⟨fd, n⟩ := f
  refine ⟨fun i m σ H => ∃ env ρ st, Fr H1 ρ1 H ρ ∧ EVo X.K H ρ env σ ∧ ES X.K G.T H ρ st ∧ PostS X.K G H ρ Z (sForF fd mg ms m i env st), ⟨n, env, ρ1, st1, Fr.refl H1 ρ1, ev.mono f1, es1, q⟩, ?_⟩
  rintro i m σ H ⟨env, ρ, st, f, ev, es, h⟩
  cases m with
  | zero =>
    unfold sForF at h
    cases e : fd i st with
    | none => rw [e] at h; exact h.elim
    | some o =>
      rw [e] at h
      cases o with
      | none => exact .inl ⟨L.stop H ρ st i f es e, h ρ H σ (Fr.refl H ρ) ev es⟩
      | some d => exact h.elim
  | succ m =>
    unfold sForF at h
    cases e : fd i st with
    | none => rw [e] at h; exact h.elim
    | some o =>
      rw [e] at h
      cases o with
      | none => exact .inl ⟨L.stop H ρ st i f es e, h ρ H σ (Fr.refl H ρ) ev es⟩
      | some d =>
        obtain ⟨hgo, hy⟩ := L.go H ρ st i d f es e
        refine .inr ⟨hgo, fun σ' H' => ∃ env ρ st, Fr H1 ρ1 H' ρ ∧ EVo X.K H' ρ env σ' ∧ ES X.K G.T H' ρ st ∧ PostS X.K G H' ρ Z (sForF fd mg ms m (i + 1) env st), fun σ' H' w => ⟨m, Nat.lt_succ_self m, w⟩, fun x H' y => ?_⟩
        obtain ⟨f2, e2, es2⟩ := hy x H' y
        have q2 := PostS.shift f2 h
        dsimp only at q2
        rw [R.toS_loop] at q2
        refine hg.sd d x σ env ρ st H' _ e2 (ev.mono f2) es2 (q2.bindR fun env3 st3 ρ3 H3 σ3 f3 ev3 es3 q3 => ?_)
        refine hb.sd σ3 env3 ρ3 st3 H3 _ ev3 es3 (PostS.loop q3 fun env4 st4 ρ4 H4 σ4 f4 ev4 es4 q4 => ?_)
        exact ⟨env4, ρ4, st4, ((f.trans f2).trans f3).trans f4, ev4, es4, q4⟩⟩
theorem ss_forT {iter tg : Expr} {wi : TI} {mi : MI} (hp : PassesOwn (model X.prog X.w) X.A X.env X.xe) (hc : X.calm = true) (hi : SI X G tg iter wi mi) (hg : SG X G tg g mg) (hb : SSs X G ss ts ms)
    (hs : ∀ x, foldedSetIterable iter X.env x = pure x := by intro _; rfl) : SS X G (.For tg iter ss [] pos) (tFor wi g ts) (sFor mi mg ms) := ss_for hp hc hi hg hb (ps_for hp hc hi.pe hg.pe hb.pe hs)
end
/-! what is walked -/
def seqFeed (ds : List D) : Feed := fun i _ => some ds[i]?
def lstFeed (n : Nat) : Feed := fun i st => match st[n]? with
  | some (.lst ds) => some ds[i]?
  | _ => none
def rngFeed (lo : Int) (n : Nat) : Feed := fun i _ => some (if i < n then some (.int (lo + (i : Int))) else none)
def itSeq (a : ME) : MI := fun env st => (a env st).bind fun d st => match d with
  | .tup ds => .ok (seqFeed ds, ds.length) st
  | .ref n => match st[n]? with
    | some (.lst ds) => .ok (lstFeed n, ds.length) st
    | _ => .no
  | .kl ds => .ok (seqFeed ds, ds.length) st
  | _ => .no
def itRng1 (as : MA) : MI := fun env st => (as env st).bind fun xs st => match xs with
  | [.int j] => if -(2 ^ 62) ≤ j ∧ j < 2 ^ 62 then .ok (rngFeed 0 j.toNat, j.toNat) st else .no
  | _ => .no
def itRng2 (as : MA) : MI := fun env st => (as env st).bind fun xs st => match xs with
  | [.int i, .int j] => if -(2 ^ 62) ≤ i ∧ i < 2 ^ 62 ∧ -(2 ^ 62) ≤ j ∧ j < 2 ^ 62 then .ok (rngFeed i (j - i).toNat, (j - i).toNat) st else .no
  | _ => .no
section
variable {K : PySem.W.Frag} {T : List (Addr × Str)} {H : Hp} {ρ : List Addr}
theorem live_tup {a : Addr} {ds : List D} {vs : List V} (hq : SqT K H a vs) (r : EVs K H ρ ds vs) : Live K T H ρ (Itt K a) (seqFeed ds) := by
  refine ⟨fun H' ρ' st i f es e => ?_, fun H' ρ' st i d f es e => ?_⟩
  · have z : ds.length ≤ i := List.getElem?_eq_none_iff.mp (Option.some.inj e)
    exact ⟨vs, f.rd hq, by rw [← r.length]; exact z⟩
  · obtain ⟨v, h1, h2⟩ := r.get (Option.some.inj e)
    refine ⟨⟨vs, v, f.rd hq, h1⟩, fun x H'' y => ?_⟩
    obtain ⟨e1, hy⟩ := y
    subst e1
    have z := hy vs (f.rd hq)
    rw [h1] at z
    cases z
    exact ⟨Fr.refl _ _, h2.mono f, es⟩
theorem live_kl {a : Addr} {ds : List D} {vs : List V} (hq : SqF K H ρ a vs) (r : EVs K H ρ ds vs) : Live K T H ρ (Itl K a) (seqFeed ds) := by
  refine ⟨fun H' ρ' st i f es e => ?_, fun H' ρ' st i d f es e => ?_⟩
  · have z : ds.length ≤ i := List.getElem?_eq_none_iff.mp (Option.some.inj e)
    exact ⟨vs, (f.rf hq).l, by rw [← r.length]; exact z⟩
  · obtain ⟨v, h1, h2⟩ := r.get (Option.some.inj e)
    refine ⟨⟨vs, v, (f.rf hq).l, h1⟩, fun x H'' y => ?_⟩
    obtain ⟨e1, hy⟩ := y
    subst e1
    have z := hy vs (f.rf hq).l
    rw [h1] at z
    cases z
    exact ⟨Fr.refl _ _, h2.mono f, es⟩
theorem ES.seq {st : Sto} (es : ES K T H ρ st) {n : Nat} {a : Addr} {ds : List D} (hn : ρ[n]? = some a) (h : st[n]? = some (.lst ds)) : ∃ vs, SqL K H a vs ∧ EVs K H ρ ds vs := by
  obtain ⟨vs, q1, q2⟩ := es.cell n a _ hn h
  exact ⟨vs, .inl (.inl q1), q2⟩
theorem lstFeed_some {n i : Nat} {st : Sto} {o : Option D} (h : lstFeed n i st = some o) : ∃ ds, st[n]? = some (.lst ds) ∧ ds[i]? = o := by
  unfold lstFeed at h
  cases e : st[n]? with
  | none => rw [e] at h; cases h
  | some c =>
    rw [e] at h
    cases c with
    | lst ds => exact ⟨ds, rfl, Option.some.inj h⟩
    | dct kvs => cases h
    | dtt _ => cases h
    | obj _ _ => cases h
theorem live_lst {a : Addr} {n : Nat} (hn : ρ[n]? = some a) : Live K T H ρ (Itl K a) (lstFeed n) := by
  refine ⟨fun H' ρ' st i f es e => ?_, fun H' ρ' st i d f es e => ?_⟩
  · obtain ⟨ds, h1, h2⟩ := lstFeed_some e
    obtain ⟨vs, q1, q2⟩ := es.seq (f.get hn) h1
    exact ⟨vs, q1, by rw [← q2.length]; exact List.getElem?_eq_none_iff.mp h2⟩
  · obtain ⟨ds, h1, h2⟩ := lstFeed_some e
    obtain ⟨vs, q1, q2⟩ := es.seq (f.get hn) h1
    obtain ⟨v, g1, g2⟩ := q2.get h2
    refine ⟨⟨vs, v, q1, g1⟩, fun x H'' y => ?_⟩
    obtain ⟨e1, hy⟩ := y
    subst e1
    have z := hy vs q1
    rw [g1] at z
    cases z
    exact ⟨Fr.refl _ _, g2, es⟩
theorem live_rng {lo : Int} {n : Nat} : Live K T H ρ (Itr lo n) (rngFeed lo n) := by
  refine ⟨fun H' ρ' st i f es e => ?_, fun H' ρ' st i d f es e => ?_⟩
  · have z := Option.some.inj e
    by_cases h : i < n
    · rw [if_pos h] at z; cases z
    · exact Nat.le_of_not_lt h
  · have z := Option.some.inj e
    by_cases h : i < n
    · rw [if_pos h] at z
      cases z
      refine ⟨h, fun x H'' y => ?_⟩
      obtain ⟨e1, hy⟩ := y
      subst e1
      subst hy
      exact ⟨Fr.refl _ _, .int _, es⟩
    · rw [if_neg h] at z; cases z
end
/-- a tuple or a list -/
def iSeq (K : PySem.W.Frag) (tl : TE) : TI := fun σ H R => tl σ H fun x H1 => ∃ a, x = .ref a ∧ (((∃ xs, SqL K H1 a xs) ∧ R (Itl K a) H1) ∨ ((∃ xs, SqT K H1 a xs) ∧ R (Itt K a) H1))
section
variable {X : Cx} {G : Gx} {a b c e l tg : Expr} {es : List Expr} {ta tl : TE} {tas : TA} {ma : ME} {mas : MA} {pos p : Pos}
theorem pi_seq (hl : PE X l tl) : PI X tg l (iSeq X.K tl) := by
  constructor
  intro pins s σ H R I h
  refine thn (hl.run pins s σ H _ I h) ?_
  intro v s1 hv
  obtain ⟨x, H1, I1, r1, a, e, q1⟩ := hv
  subst e
  cases r1
  have I2 := I1.kept (t' := s1.toks) (h' := s1.heap.push { cls := .type "list_iterator", data := .fields #[.ref a, rawInt 0] }) fun b o e => Heap.get?_push_of_some _ e
  have fp : ∀ b ∈ [s1.heap.objs.size], FpOk X pins H1 b := by
    intro b hb
    rw [List.mem_singleton.mp hb]
    exact I1.fpOk (Nat.le_refl _) (I1.hok.fresh (Nat.le_refl _))
  rcases q1 with ⟨⟨xs, hq⟩, q⟩ | ⟨⟨xs, hq⟩, q⟩
  · obtain ⟨its, rv, pl, hz⟩ := I1.list hq
    apply wpAny_pyIter_list pl.isList
    exact ⟨s1.heap.objs.size, [s1.heap.objs.size], _, _, H1, rfl, I1.kept (t' := s1.toks) (fun b o e => Heap.get?_push_of_some _ e), turn_list a _, ⟨_, Heap.get?_push_size _ rfl, rfl, rfl⟩, fp, q⟩
  · obtain ⟨its, rv, pl, hz⟩ := I1.tuple hq
    apply wpAny_pyIter_tuple (show s1.heap.IsTuple a its.toArray from pl)
    exact ⟨s1.heap.objs.size, [s1.heap.objs.size], _, _, H1, rfl, I1.kept (t' := s1.toks) (fun b o e => Heap.get?_push_of_some _ e), turn_tuple a _, ⟨_, Heap.get?_push_size _ rfl, rfl, rfl⟩, fp, q⟩
theorem si_seq (ha : SE X G l tl ma) : SI X G tg l (iSeq X.K tl) (itSeq ma) := ⟨pi_seq ha.pe, fun σ env ρ st H Q ev es h => by
  refine ha.sd σ env ρ st H _ ev es (h.bind fun d st1 ρ1 H1 v f1 e1 es1 q => ?_)
  cases e1 with
  | @tup a ds vs hq r => exact ⟨a, rfl, .inr ⟨⟨vs, hq⟩, q.now (live_tup hq r) es1⟩⟩
  | @ref n a hn =>
    dsimp only at q
    cases e : st1[n]? with
    | none => rw [e] at q; exact q.elim
    | some c =>
      rw [e] at q
      cases c with
      | lst ds =>
        obtain ⟨vs, q1, q2⟩ := es1.seq hn e
        exact ⟨a, rfl, .inl ⟨⟨vs, q1⟩, q.now (live_lst hn) es1⟩⟩
      | dct kvs => exact q.elim
      | dtt _ => exact q.elim
      | obj _ _ => exact q.elim
  | @kl a ds vs hq r => exact ⟨a, rfl, .inl ⟨⟨vs, hq.l⟩, q.now (live_kl hq r) es1⟩⟩
  | _ => exact q.elim⟩
theorem si_rng1 (hg : Gl X "range") (hm : X.mg "range" = none) (ha : SA X G [a] tas mas) (hs : starEach [a] X.env = [(false, eval a X.env)] := by rfl) : SI X G tg (.Call (.Name "range" p) [a] [] pos) (iRng1 tas) (itRng1 mas) := ⟨pi_range1 hg hm ha.pe hs, fun σ env ρ st H Q ev es h => by
  refine ha.sd σ env ρ st H _ ev es (h.bind fun xs st1 ρ1 H1 vs f1 e1 es1 q => ?_)
  split at q
  · rename_i j
    split at q
    · rename_i hj
      cases e1 with
      | cons h1 h2 =>
        cases h1
        cases h2
        exact ⟨j, rfl, hj.1, hj.2, q.now live_rng es1⟩
    · exact q.elim
  · exact q.elim⟩
theorem si_rng2 (hg : Gl X "range") (hm : X.mg "range" = none) (ha : SA X G [a, b] tas mas) (hs : starEach [a, b] X.env = [(false, eval a X.env), (false, eval b X.env)] := by rfl) (hs2 : starEach [b] X.env = [(false, eval b X.env)] := by rfl) :
    SI X G tg (.Call (.Name "range" p) [a, b] [] pos) (iRng2 tas) (itRng2 mas) := ⟨pi_range2 hg hm ha.pe hs hs2, fun σ env ρ st H Q ev es h => by
  refine ha.sd σ env ρ st H _ ev es (h.bind fun xs st1 ρ1 H1 vs f1 e1 es1 q => ?_)
  split at q
  · rename_i i j
    split at q
    · rename_i hj
      cases e1 with
      | cons h1 h2 =>
        cases h1
        cases h2 with
        | cons h2 h3 =>
          cases h2
          cases h3
          exact ⟨i, j, rfl, hj, q.now live_rng es1⟩
    · exact q.elim
  · exact q.elim⟩

/-! ### comprehensions -/
/-- a comprehension's target: its own names alone -/
structure SGO (X : Cx) (G : Gx) (vs : List Nat) (e : Expr) (g : TG) (m : MG) : Prop where
  pe : PG X e g
  sd : ∀ (d : D) (v : V) (σ : L2.St) (env : Ev) (ρ : List Addr) (st : Sto) (H : Hp) (Q : L2.St → Hp → Prop), EV X.K H ρ d v → EVo X.K H ρ env σ → ES X.K G.T H ρ st →
    Post (fun H ρ env σ' => EVo X.K H ρ env σ' ∧ L2.wipe σ' vs = L2.wipe σ vs) X.K G.T G.C H ρ Q G.E (m d env st) → g v σ H Q
theorem wipe_set {v : Option V} : ∀ {vs : List Nat} {σ : L2.St} {i : Nat}, i ∈ vs → L2.wipe (σ.set i v) vs = L2.wipe σ vs
  | [], _, _, h => nomatch h
  | j :: vs, σ, i, h => by
    unfold L2.wipe
    by_cases hm : i ∈ vs
    · rw [wipe_set hm]
    · have e : i = j := (List.mem_cons.mp h).resolve_right hm
      subst e
      have gen : ∀ (ws : List Nat), i ∉ ws → L2.wipe (σ.set i v) ws = (L2.wipe σ ws).set i v := by
        intro ws
        induction ws with
        | nil => intro _; rfl
        | cons k ws ih =>
          intro hn
          unfold L2.wipe
          rw [ih (fun z => hn (List.mem_cons_of_mem _ z)), List.set_comm _ _ (fun z : i = k => hn (z ▸ List.mem_cons_self))]
      rw [gen vs hm, List.set_set]
theorem sgo_name (i : Nat) {vs : List Nat} {x : Str} (hm : i ∈ vs) (hN : X.N.Nodup) (hi : X.N[i]? = some x := by rfl) (hx : Loc X.env.scope x := by first | exact Or.inl rfl | exact Or.inr rfl) (hf : X.fn x = true ∨ X.env.scope.names.lookup x = some .local := by first | exact .inl rfl | exact .inr rfl | assumption) :
    SGO X G vs (.Name x pos) (gName i) (mName i) := ⟨pg_name hN hi hx hf, fun d v σ env ρ st H Q hd ev es h => h.now ⟨ev.set hd i, wipe_set hm⟩ es⟩
def R.noEr {α : Type} (r : R α) : R α := match r with
  | .er _ _ => .no
  | r => r
@[simp] theorem R.noEr_ok {α : Type} (a : α) (st : Sto) : (R.ok a st).noEr = .ok a st := rfl
@[simp] theorem R.noEr_er {α : Type} (n : Nat) (st : Sto) : (R.er n st : R α).noEr = .no := rfl
@[simp] theorem R.noEr_no {α : Type} : (R.no : R α).noEr = .no := rfl
def lcGo (fd : Feed) (vs : List Nat) (g : MG) (t : MT) (e : ME) (loc : Nat) : Nat → Nat → Ev → Sto → R D
  | 0, i, _, st => match fd i st with
    | some none => .ok (.ref loc) st
    | _ => .no
  | n + 1, i, env, st => match fd i st with
    | some none => .ok (.ref loc) st
    | some (some d) => (g d env st).noEr.bind fun env1 st => (t env1 st).noEr.bind fun k st => if k = true then (e env1 st).noEr.bind fun y st => match st[loc]? with
        | some (.lst acc) => if acc.length < 100000 then lcGo fd vs g t e loc n (i + 1) env (st.set loc (.lst (acc ++ [y]))) else .no
        | _ => .no
      else lcGo fd vs g t e loc n (i + 1) env st
    | none => .no
def dLc (it : MI) (vs : List Nat) (g : MG) (t : MT) (e : ME) : ME := fun env st => (it env st).bind fun f st => lcGo f.1 vs g t e st.length f.2 0 (wipeD env vs) (st ++ [.lst []])
def tYesD : MT := fun _ st => .ok true st
theorem Post.noEr {α β : Type} {Rel : Hp → List Addr → α → β → Prop} {K : PySem.W.Frag} {T : List (Addr × Str)} {C : Nat → Addr} {H : Hp} {ρ : List Addr} {Q : β → Hp → Prop} {E E' : XK} {r : R α} (h : Post Rel K T C H ρ Q E r.noEr) : Post Rel K T C H ρ Q E' r := by
  cases r with
  | ok a st => exact h
  | er n st => exact h.elim
  | no => exact h
abbrev Gx.nox (G : Gx) : Gx := { G with E := L2.E0 }
structure STs (X : Cx) (G : Gx) (ifs : List Expr) (t : TT) (m : MT) : Prop where
  pe : PTs X ifs t
  sd : ∀ (σ : L2.St) (env : Ev) (ρ : List Addr) (st : Sto) (H : Hp) (Q : Bool → Hp → Prop), EVo X.K H ρ env σ → ES X.K G.T H ρ st → PostT X.K G H ρ Q (m env st) → t σ H Q
theorem sts_nil : STs X G [] tYes tYesD := ⟨pts_nil, fun σ env ρ st H Q ev es h => h.now rfl es⟩
theorem sts_one {tt : TT} {mt : MT} (h : ST X G c tt mt) : STs X G [c] tt mt := ⟨pts_one h.pe, h.sd⟩
theorem sd_lc {iter : Expr} {wi : TI} {mi : MI} {g : TG} {mg : MG} {tt : TT} {mt : MT} {te : TE} {me : ME} {vs : List Nat} {K : PySem.W.Frag}
    (hi : ∀ (σ : L2.St) (env : Ev) (ρ : List Addr) (st : Sto) (H : Hp) (Q : It → Hp → Prop), EVo K H ρ env σ → ES K G.T H ρ st → Post (fun H ρ (f : Feed × Nat) J => Live K G.T H ρ J f.1) K G.T G.C H ρ Q G.E (mi env st) → wi σ H Q)
    (hg : ∀ (d : D) (v : V) (σ : L2.St) (env : Ev) (ρ : List Addr) (st : Sto) (H : Hp) (Q : L2.St → Hp → Prop), EV K H ρ d v → EVo K H ρ env σ → ES K G.T H ρ st → Post (fun H ρ env σ' => EVo K H ρ env σ' ∧ L2.wipe σ' vs = L2.wipe σ vs) K G.T G.C H ρ Q L2.E0 (mg d env st) → g v σ H Q)
    (ht : ∀ (σ : L2.St) (env : Ev) (ρ : List Addr) (st : Sto) (H : Hp) (Q : Bool → Hp → Prop), EVo K H ρ env σ → ES K G.T H ρ st → PostT K G.nox H ρ Q (mt env st) → tt σ H Q)
    (he : ∀ (σ : L2.St) (env : Ev) (ρ : List Addr) (st : Sto) (H : Hp) (Q : VK), EVo K H ρ env σ → ES K G.T H ρ st → PostE K G.nox H ρ Q (me env st) → te σ H Q)
    (σ : L2.St) (env : Ev) (ρ : List Addr) (st : Sto) (H : Hp) (Q : VK) (ev : EVo K H ρ env σ) (es : ES K G.T H ρ st) (h : PostE K G H ρ Q (dLc mi vs mg mt me env st)) : tLc wi g tt te vs σ H Q := by
  refine hi σ env ρ st H _ ev es (h.bind fun f st1 ρ1 H1 J f1 L es1 q => ?_)
  obtain ⟨fd, n⟩ := f
  intro Dl hD
  have FD : Fr H1 ρ1 (upd H1 Dl (.lst [])) (ρ1 ++ [Dl]) := Fr.laidS hD
  have hloc : (ρ1 ++ [Dl])[st1.length]? = some Dl := es1.ref Dl
  refine ⟨fun i m H => ∃ ρ st, Fr H1 ρ1 H ρ ∧ EVo K H ρ (wipeD env vs) (L2.wipe σ vs) ∧ ES K G.T H ρ st ∧ ρ[st1.length]? = some Dl ∧ PostE K G H ρ Q (lcGo fd vs mg mt me st1.length m i (wipeD env vs) st),
    ⟨n, ρ1 ++ [Dl], st1 ++ [.lst []], FD, ((ev.mono f1).mono FD).wipe vs, es1.lay hD .nil, hloc, Post.shift FD q⟩, ?_⟩
  rintro i m H ⟨ρ, st, f, ev, es, hl, h⟩
  have fin : ∀ o, fd i st = some o → (o = none → PostE K G H ρ Q (.ok (.ref st1.length) st)) → o = none → (J.stop i H ∧ Q (.ref Dl) H) := fun o e hh ho => by
    subst ho
    exact ⟨L.stop H ρ st i f es e, (hh rfl).now (.ref hl) es⟩
  cases m with
  | zero =>
    unfold lcGo at h
    cases e : fd i st with
    | none => rw [e] at h; exact h.elim
    | some o =>
      rw [e] at h
      cases o with
      | none => exact .inl (fin none e (fun _ => h) rfl)
      | some d => exact h.elim
  | succ m =>
    unfold lcGo at h
    cases e : fd i st with
    | none => rw [e] at h; exact h.elim
    | some o =>
      rw [e] at h
      cases o with
      | none => exact .inl (fin none e (fun _ => h) rfl)
      | some d =>
        obtain ⟨hgo, hy⟩ := L.go H ρ st i d f es e
        refine .inr ⟨hgo, fun H' => ∃ ρ st, Fr H1 ρ1 H' ρ ∧ EVo K H' ρ (wipeD env vs) (L2.wipe σ vs) ∧ ES K G.T H' ρ st ∧ ρ[st1.length]? = some Dl ∧ PostE K G H' ρ Q (lcGo fd vs mg mt me st1.length m (i + 1) (wipeD env vs) st), fun H' w => ⟨m, Nat.lt_succ_self m, w⟩, fun x H' y => ?_⟩
        obtain ⟨f2, e2, es2⟩ := hy x H' y
        have q2 := Post.shift f2 h
        dsimp only at q2
        have ww : L2.wipe (L2.wipe σ vs) vs = L2.wipe σ vs := by
          have gen : ∀ (us ws : List Nat), (∀ u ∈ us, u ∈ ws) → L2.wipe (L2.wipe σ us) ws = L2.wipe σ ws := by
            intro us
            induction us with
            | nil => intro ws _; rfl
            | cons u us ih =>
              intro ws hw
              show L2.wipe ((L2.wipe σ us).set u none) ws = _
              rw [wipe_set (hw u List.mem_cons_self)]
              exact ih ws fun z hz => hw z (List.mem_cons_of_mem _ hz)
          exact gen vs vs fun _ h => h
        refine hg d x _ (wipeD env vs) ρ st H' _ e2 (ev.mono f2) es2 (Post.noEr (q2.bind fun env3 st3 ρ3 H3 σ3 f3 r3 es3 q3 => ?_))
        obtain ⟨ev3, w3⟩ := r3
        refine ⟨by rw [w3, ww], ?_⟩
        refine ht σ3 env3 ρ3 st3 H3 _ ev3 es3 (Post.noEr (q3.bind fun k st4 ρ4 H4 k' f4 e4 es4 q4 => ?_))
        subst e4
        have f24 := f2.trans (f3.trans f4)
        cases k with
        | false => exact ⟨ρ4, st4, f.trans f24, ev.mono f24, es4, f24.get hl, q4⟩
        | true =>
          dsimp only
          rw [if_pos rfl]
          rw [if_pos rfl] at q4
          refine he σ3 env3 ρ4 st4 H4 _ (ev3.mono f4) es4 (Post.noEr (q4.bind fun y st5 ρ5 H5 vy f5 e5 es5 q5 => ?_))
          have f25 := f24.trans f5
          cases ec : st5[st1.length]? with
          | none => rw [ec] at q5; exact q5.elim
          | some c =>
            rw [ec] at q5
            cases c with
            | lst acc =>
              dsimp only at q5
              by_cases hz : acc.length < 100000
              · rw [if_pos hz] at q5
                obtain ⟨vacc, g1, g2⟩ := es5.cell st1.length Dl _ (f25.get hl) ec
                have fw : Fr H5 ρ5 (upd H5 Dl (.lst (vacc ++ [vy]))) ρ5 := Fr.write (List.mem_of_getElem? (f25.get hl)) g1
                refine ⟨vacc, g1, by rw [← g2.length]; exact Nat.lt_of_lt_of_le hz line5, ρ5, _, f.trans (f25.trans fw), ev.mono (f25.trans fw), es5.write (f25.get hl) g1 (g2.append (.cons e5 .nil)), (f25.trans fw).get hl, Post.shift fw q5⟩
              · rw [if_neg hz] at q5
                exact q5.elim
            | dct kvs => exact q5.elim
            | dtt _ => exact q5.elim
            | obj _ _ => exact q5.elim
/-- a reading by what is made of data -/
def canE (K : PySem.W.Frag) (G : Gx) (m : ME) : TE := fun σ H Q => ∃ env ρ st, EVo K H ρ env σ ∧ ES K G.T H ρ st ∧ PostE K G H ρ Q (m env st)
def canT (K : PySem.W.Frag) (G : Gx) (m : MT) : TT := fun σ H Q => ∃ env ρ st, EVo K H ρ env σ ∧ ES K G.T H ρ st ∧ PostT K G H ρ Q (m env st)
theorem SE.can {te : TE} {me : ME} (h : SE X G e te me) : PE X e (canE X.K G me) := ⟨fun pins s σ H Q I q => by
  obtain ⟨env, ρ, st, h1, h2, h3⟩ := q
  exact h.pe.run pins s σ H Q I (h.sd σ env ρ st H Q h1 h2 h3)⟩
theorem STs.can {ifs : List Expr} {tt : TT} {mt : MT} (h : STs X G ifs tt mt) : PTs X ifs (canT X.K G mt) := ⟨fun pins s σ H Q I q => by
  obtain ⟨env, ρ, st, h1, h2, h3⟩ := q
  exact h.pe.run pins s σ H Q I (h.sd σ env ρ st H Q h1 h2 h3)⟩
theorem se_lc {elt iter : Expr} {ifs : List Expr} {scope : Scope} {own : List (Str × Nat)} {wi : TI} {mi : MI} {g : TG} {mg : MG} {mt : MT} {me : ME} (hc : X.calm = true) (hN : X.N.Nodup) (hi : SI X G tg iter wi mi) (ok : BlkOk X.N X.env.scope scope own)
    (hg : ∀ (s : Shared) (H : Hp) (C : Addr) (cl : List (Str × Addr)) (fp : List Addr), SGO (X.blk s H scope (compEnvC scope cl C X.env) fp) G.nox (own.map (·.2)) tg g mg)
    (ht : ∀ (s : Shared) (H : Hp) (C : Addr) (cl : List (Str × Addr)) (fp : List Addr), ∃ tt, STs (X.blk s H scope (compEnvC scope cl C X.env) fp) G.nox ifs tt mt)
    (he : ∀ (s : Shared) (H : Hp) (C : Addr) (cl : List (Str × Addr)) (fp : List Addr), ∃ te, SE (X.blk s H scope (compEnvC scope cl C X.env) fp) G.nox elt te me) (hs : ∀ x, foldedSetIterable iter X.env x = pure x := by intro _; rfl) :
    SE X G (.ListComp elt [⟨tg, iter, ifs, 0⟩] scope pos) (tLc wi g (canT X.K G.nox mt) (canE X.K G.nox me) (own.map (·.2))) (dLc mi (own.map (·.2)) mg mt me) :=
  ⟨pe_lc hc hN hi.pe ok (fun s H C cl fp => (hg s H C cl fp).pe) (fun s H C cl fp => let ⟨_, z⟩ := ht s H C cl fp; z.can) (fun s H C cl fp => let ⟨_, z⟩ := he s H C cl fp; z.can) hs, sd_lc (iter := iter) hi.sd
    (fun d v σ env ρ st H Q => (hg X.s_0 H 0 [] []).sd d v σ env ρ st H Q) (fun σ env ρ st H Q h1 h2 h3 => ⟨env, ρ, st, h1, h2, h3⟩) (fun σ env ρ st H Q h1 h2 h3 => ⟨env, ρ, st, h1, h2, h3⟩)⟩
end
end Dn

set_option Elab.async false
set_option linter.all false
set_option maxRecDepth 100000
set_option maxHeartbeats 2000000
/-! Operations on data. -/
namespace Dn
open PySem PySem.Spec PyProof.Rows L2

section
variable {K : PySem.W.Frag} {G : Gx} {H : Hp} {ρ : List Addr} {st : Sto} {Q : VK}
theorem EV.ofInt {i : Int} {v : V} (h : EV K H ρ (.int i) v) : v = .int i := by cases h; rfl
theorem EV.ofBl {i : Bool} {v : V} (h : EV K H ρ (.bl i) v) : v = .bl i := by cases h; rfl
theorem EV.ofStr {i : Str} {v : V} (h : EV K H ρ (.str i) v) : v = .str i := by cases h; rfl
theorem EV.ofTup {ds : List D} {v : V} (h : EV K H ρ (.tup ds) v) : ∃ a vs, v = .ref a ∧ SqT K H a vs ∧ EVs K H ρ ds vs := by
  cases h with
  | tup h1 h2 => exact ⟨_, _, rfl, h1, h2⟩
theorem EV.ofRef {n : Nat} {v : V} (h : EV K H ρ (.ref n) v) : ∃ a, v = .ref a ∧ ρ[n]? = some a := by
  cases h with
  | ref h1 => exact ⟨_, rfl, h1⟩
/-- a list of the store -/
def Sto.seq (st : Sto) (n : Nat) : Option (List D) := match st[n]? with
  | some (.lst ds) => some ds
  | _ => none
theorem Sto.seq_of {n : Nat} {ds : List D} (h : st.seq n = some ds) : st[n]? = some (.lst ds) := by
  unfold Sto.seq at h
  cases e : st[n]? with
  | none => rw [e] at h; cases h
  | some c =>
    rw [e] at h
    cases c with
    | lst es => cases h; rfl
    | dct kvs => cases h
    | dtt _ => cases h
    | obj _ _ => cases h
/-- a tuple or a list, as its items -/
def D.items (st : Sto) : D → Option (List D)
  | .tup ds => some ds
  | .kl ds => some ds
  | .ref n => st.seq n
  | _ => none
theorem EV.items {d : D} {v : V} {ds : List D} (h : EV K H ρ d v) (es : ES K G.T H ρ st) (e : d.items st = some ds) : ∃ a vs, v = .ref a ∧ (SqL K H a vs ∨ SqT K H a vs) ∧ EVs K H ρ ds vs := by
  cases h with
  | @tup a ds' vs h1 h2 =>
    cases e
    exact ⟨a, vs, rfl, .inr h1, h2⟩
  | @kl a ds' vs h1 h2 =>
    cases e
    exact ⟨a, vs, rfl, .inl h1.l, h2⟩
  | @ref n a h1 =>
    obtain ⟨vs, q1, q2⟩ := es.seq h1 (Sto.seq_of e)
    exact ⟨a, vs, rfl, .inl q1, q2⟩
  | _ => cases e

/-! ### ints -/
def CMulA (i j : Int) : Prop := CMul i j ∨ CMulW i j
def intOp (C : Int → Int → Prop) [∀ i j, Decidable (C i j)] (g : Int → Int → D) : F2 := fun x y st => match x, y with
  | .int i, .int j => if C i j then .ok (g i j) st else .no
  | _, _ => .no
theorem os_int {C : Int → Int → Prop} [∀ i j, Decidable (C i j)] {C' : Int → Int → Prop} (hC : ∀ i j, C i j → C' i j) {g : Int → Int → D} {g' : Int → Int → V} (hg : ∀ i j H ρ, C i j → EV K H ρ (g i j) (g' i j)) : OpS K G (rI C' g') (intOp C g) := by
  intro x y vx vy ρ st H Q ex ey es h
  unfold intOp at h
  split at h
  · rename_i i j
    split at h
    · rename_i hc
      cases ex.ofInt
      cases ey.ofInt
      exact ⟨i, j, rfl, rfl, hC i j hc, h.now (hg i j H ρ hc) es⟩
    · exact h.elim
  · exact h.elim
theorem os_or {r r' : R2} {f f' : F2} {f'' : F2} (h : OpS K G r f) (h' : OpS K G r' f') (hf : ∀ x y st, (f'' x y st = f x y st) ∨ (f'' x y st = f' x y st)) : OpS K G (fun x y H Q => r x y H Q ∨ r' x y H Q) f'' := by
  intro x y vx vy ρ st H Q ex ey es q
  rcases hf x y st with e | e
  · rw [e] at q
    exact .inl (h x y vx vy ρ st H Q ex ey es q)
  · rw [e] at q
    exact .inr (h' x y vx vy ρ st H Q ex ey es q)
end

theorem newT {K : PySem.W.Frag} {G : Gx} {H : Hp} {ρ : List Addr} {st : Sto} {Q : VK} {ds : List D} {vs : List V} (h : PostE K G H ρ Q (.ok (.tup ds) st)) (r : EVs K H ρ ds vs) (es : ES K G.T H ρ st) (p : Addr) (hp : H p = none) : Q (.ref p) (upd H p (.tup vs)) :=
  h ρ _ _ (Fr.laid hp) (.tup (.inl (.inl upd_same)) (r.mono (Fr.laid hp))) (es.laid hp)
theorem newL {K : PySem.W.Frag} {G : Gx} {H : Hp} {ρ : List Addr} {st : Sto} {Q : VK} {ds : List D} {vs : List V} (h : PostE K G H ρ Q (.ok (.ref st.length) (st ++ [.lst ds]))) (r : EVs K H ρ ds vs) (es : ES K G.T H ρ st) (p : Addr) (hp : H p = none) : Q (.ref p) (upd H p (.lst vs)) :=
  h (ρ ++ [p]) _ _ (Fr.laidS hp) (.ref (es.ref p)) (es.lay hp r)
theorem EVs.nil_iff {K : PySem.W.Frag} {H : Hp} {ρ : List Addr} {ds : List D} {vs : List V} (h : EVs K H ρ ds vs) : ds = [] ↔ vs = [] := by
  cases h with
  | nil => simp
  | cons _ _ => simp
/-! #### + -/
def addD : F2 := fun x y st => match x, y with
  | .int i, .int j => .ok (.int (i + j)) st
  | .str a, .str b => if a.length + b.length ≤ sizeLine then .ok (.str (a ++ b)) st else .no
  | .tup a, .tup b => if a.length + b.length ≤ 100000 then .ok (.tup (a ++ b)) st else .no
  | .ref n, .ref m => match st[n]?, st[m]? with
    | some (.lst a), some (.lst b) => if a.length + b.length ≤ 100000 then .ok (.ref st.length) (st ++ [.lst (a ++ b)]) else .no
    | _, _ => .no
  | _, _ => .no
def rAddA (K : PySem.W.Frag) : R2 := fun x y H Q => (((∃ i j, x = .int i ∧ y = .int j ∧ Q (.int (i + j)) H) ∨ (∃ i j : Str, x = .str i ∧ y = .str j ∧ i.length + j.length ≤ sizeLine ∧ Q (.str (i ++ j)) H)) ∨ rCatA K x y H Q) ∨ rCat x y H Q
section
variable {X : Cx} {K : PySem.W.Frag} {G : Gx}
theorem op_addA : OpR X (binaryOp .Add) (rAddA X.K) := ((op_add.or op_add_str).or op_catA).or op_cat
theorem os_add : OpS K G (rAddA K) addD := by
  intro x y vx vy ρ st H Q ex ey es h
  cases ex with
  | int i =>
    cases ey with
    | int j => exact .inl (.inl (.inl ⟨i, j, rfl, rfl, h.now (.int _) es⟩))
    | _ => exact h.elim
  | str a =>
    cases ey with
    | str b =>
      simp only [addD] at h
      split at h
      · rename_i hl
        exact .inl (.inl (.inr ⟨a, b, rfl, rfl, hl, h.now (.str _) es⟩))
      · exact h.elim
    | _ => exact h.elim
  | @tup p ds vs h1 h2 =>
    cases ey with
    | @tup p' ds' vs' h1' h2' =>
      simp only [addD] at h
      split at h
      · rename_i hl
        refine .inl (.inr ⟨p, p', vs, vs', rfl, rfl, h1, h1', by rw [← h2.length, ← h2'.length]; exact Nat.le_trans hl line5, fun z => ?_, fun _ z => ?_, fun _ _ => newT h (h2.append h2') es⟩)
        · have e := h2.nil_iff.mpr z
          subst e
          exact h.now (.tup h1' h2') es
        · have e := h2'.nil_iff.mpr z
          subst e
          rw [List.append_nil] at h
          exact h.now (.tup h1 h2) es
      · exact h.elim
    | _ => exact h.elim
  | @ref n a hn =>
    cases ey with
    | @ref m b hm =>
      simp only [addD] at h
      split at h
      · rename_i xs ys e1 e2
        split at h
        · rename_i hl
          obtain ⟨vs, q1, q2⟩ := es.cell n a _ hn e1
          obtain ⟨ws, r1, r2⟩ := es.cell m b _ hm e2
          exact .inr ⟨a, b, vs, ws, rfl, rfl, q1, r1, by rw [← q2.length, ← r2.length]; exact Nat.le_trans hl line5, newL h (q2.append r2) es⟩
        · exact h.elim
      · exact h.elim
    | _ => exact h.elim
  | _ => cases ey <;> exact h.elim
/-! #### the others on ints -/
def subD : F2 := fun x y st => match x, y with
  | .int i, .int j => .ok (.int (i - j)) st
  | _, _ => .no
theorem os_sub : OpS K G (rI0 fun i j => .int (i - j)) subD := by
  intro x y vx vy ρ st H Q ex ey es h
  cases ex with
  | int i =>
    cases ey with
    | int j => exact ⟨i, j, rfl, rfl, h.now (.int _) es⟩
    | _ => exact h.elim
  | _ => cases ey <;> exact h.elim
/-- sizes of factors -/
def mulOk (i j : Int) : Bool := decide ((-(2 ^ 64) < i ∧ i < 2 ^ 64) ∨ (-(2 ^ 64) < j ∧ j < 2 ^ 64) ∨ i.natAbs.log2 + j.natAbs.log2 < 1000000)
def mulD : F2 := fun x y st => match x, y with
  | .int i, .int j => if mulOk i j = true then .ok (.int (i * j)) st else .no
  | .tup ds, .int k => if ds ≠ [] ∧ 2 ≤ k ∧ k ≤ 1000 ∧ ds.length ≤ 1000 then .ok (.tup (List.replicate k.toNat ds).flatten) st else .no
  | .ref n, .int k => match st[n]? with
    | some (.lst a) => if -(2 ^ 63) ≤ k ∧ k < 2 ^ 63 ∧ a.length * k.toNat ≤ 100000 then .ok (.ref st.length) (st ++ [.lst (List.replicate k.toNat a).flatten]) else .no
    | _ => .no
  | _, _ => .no
def rMulA (K : PySem.W.Frag) : R2 := fun x y H Q => ((rI CMul (fun i j => .int (i * j)) x y H Q ∨ rI CMulW (fun i j => .int (i * j)) x y H Q) ∨ rRepT K x y H Q) ∨ rRep x y H Q
theorem op_mulA : OpR X (binaryOp .Mult) (rMulA X.K) := ((op_mul.or op_mulW).or op_repT).or op_rep
theorem os_mul : OpS K G (rMulA K) mulD := by
  intro x y vx vy ρ st H Q ex ey es h
  cases ex with
  | int i =>
    cases ey with
    | int j =>
      simp only [mulD] at h
      split at h
      · rename_i hc
        unfold mulOk at hc
        rcases of_decide_eq_true hc with hc | hc | hc
        · exact .inl (.inl (.inl ⟨i, j, rfl, rfl, .inl hc, h.now (.int _) es⟩))
        · exact .inl (.inl (.inl ⟨i, j, rfl, rfl, .inr hc, h.now (.int _) es⟩))
        · exact .inl (.inl (.inr ⟨i, j, rfl, rfl, hc, h.now (.int _) es⟩))
      · exact h.elim
    | _ => exact h.elim
  | @tup p ds vs h1 h2 =>
    cases ey with
    | int k =>
      simp only [mulD] at h
      split at h
      · rename_i hc
        obtain ⟨c1, c2, c3, c4⟩ := hc
        exact .inl (.inr ⟨p, k, vs, rfl, rfl, h1, fun z => c1 (h2.nil_iff.mpr z), c2, c3, by rw [← h2.length]; exact c4, newT h (h2.rep _) es⟩)
      · exact h.elim
    | _ => exact h.elim
  | @ref n a hn =>
    cases ey with
    | int k =>
      simp only [mulD] at h
      split at h
      · rename_i xs e1
        split at h
        · rename_i hc
          obtain ⟨vs, q1, q2⟩ := es.cell n a _ hn e1
          exact .inr ⟨a, k, vs, rfl, rfl, q1, hc.1, hc.2.1, by rw [← q2.length]; exact Nat.le_trans hc.2.2 line5, newL h (q2.rep _) es⟩
        · exact h.elim
      · exact h.elim
    | _ => exact h.elim
  | _ => cases ey <;> exact h.elim
def fdivD : F2 := fun x y st => match x, y with
  | .int i, .int j => if 0 < j ∧ j.natAbs.log2 < 9000 then .ok (.int (i / j)) st else if j < 0 ∧ j.natAbs < 1073741824 then .ok (.int (i.fdiv j)) st else .no
  | _, _ => .no
def rFdivA : R2 := fun x y H Q => rI CDivW (fun i j => .int (i / j)) x y H Q ∨ rI CDivN (fun i j => .int (i.fdiv j)) x y H Q
theorem op_fdivA : OpR X (binaryOp .FloorDiv) rFdivA := op_fdivW.or op_fdivN
theorem os_fdiv : OpS K G rFdivA fdivD := by
  intro x y vx vy ρ st H Q ex ey es h
  cases ex with
  | int i =>
    cases ey with
    | int j =>
      simp only [fdivD] at h
      split at h
      · rename_i hc
        exact .inl ⟨i, j, rfl, rfl, hc, h.now (.int _) es⟩
      · split at h
        · rename_i hc
          exact .inr ⟨i, j, rfl, rfl, ⟨by omega, hc.2⟩, h.now (.int _) es⟩
        · exact h.elim
    | _ => exact h.elim
  | _ => cases ey <;> exact h.elim
def modD : F2 := fun x y st => match x, y with
  | .int i, .int j => if 0 < j then .ok (.int (i % j)) st else if j < 0 then .ok (.int (i.fmod j)) st else .no
  | _, _ => .no
theorem os_mod : OpS K G (rI (fun _ j => j ≠ 0) fun i j => .int (i.fmod j)) modD := by
  intro x y vx vy ρ st H Q ex ey es h
  cases ex with
  | int i =>
    cases ey with
    | int j =>
      simp only [modD] at h
      split at h
      · rename_i hc
        refine ⟨i, j, rfl, rfl, by omega, ?_⟩
        dsimp only
        rw [Int.fmod_eq_emod_of_nonneg i (by omega)]
        exact h.now (.int _) es
      · split at h
        · rename_i hc
          exact ⟨i, j, rfl, rfl, by omega, h.now (.int _) es⟩
        · exact h.elim
    | _ => exact h.elim
  | _ => cases ey <;> exact h.elim
def powD : F2 := fun x y st => match x, y with
  | .int i, .int j => if 0 ≤ j ∧ j ≤ 1000000 ∧ i.natAbs < 2 ^ 64 then .ok (.int (i ^ j.toNat)) st else .no
  | _, _ => .no
theorem os_pow : OpS K G (rI CPow fun i j => .int (i ^ j.toNat)) powD := by
  intro x y vx vy ρ st H Q ex ey es h
  cases ex with
  | int i =>
    cases ey with
    | int j =>
      simp only [powD] at h
      split at h
      · rename_i hc
        exact ⟨i, j, rfl, rfl, hc, h.now (.int _) es⟩
      · exact h.elim
    | _ => exact h.elim
  | _ => cases ey <;> exact h.elim
def negD : F1 := fun x st => match x with
  | .int i => .ok (.int (-i)) st
  | _ => .no
theorem us_neg : UnS K G (rU fun i => .int (-i)) negD := by
  intro x vx ρ st H Q ex es h
  cases ex with
  | int i => exact ⟨i, rfl, h.now (.int _) es⟩
  | _ => exact h.elim
/-! #### order of ints -/
def cmpD (g : Int → Int → Bool) : F2 := fun x y st => match x, y with
  | .int i, .int j => .ok (.bl (g i j)) st
  | _, _ => .no
theorem os_cmp {g : Int → Int → Bool} : OpS K G (rI0 fun i j => .bl (g i j)) (cmpD g) := by
  intro x y vx vy ρ st H Q ex ey es h
  cases ex with
  | int i =>
    cases ey with
    | int j => exact ⟨i, j, rfl, rfl, h.now (.bl _) es⟩
    | _ => exact h.elim
  | _ => cases ey <;> exact h.elim
abbrev ltD : F2 := cmpD fun i j => decide (i < j)
abbrev leD : F2 := cmpD fun i j => decide (i ≤ j)
abbrev gtD : F2 := cmpD fun i j => decide (j < i)
abbrev geD : F2 := cmpD fun i j => decide (j ≤ i)
/-! #### == -/
mutual
/-- data without lists -/
def D.pyN : D → Option PyData
  | .non => some .none
  | .bl b => some (.bool b)
  | .int i => some (.int i)
  | .str x => some (.str x)
  | .tup ds => (D.pyAll ds).map .tuple
  | .ref _ => none
  | .ty _ => none
  | .ob _ => none
  | .kl ds => (D.pyAll ds).map .list
def D.pyAll : List D → Option (List PyData)
  | [] => some []
  | d :: ds => match d.pyN, D.pyAll ds with
    | some x, some xs => some (x :: xs)
    | _, _ => none
end
def D.py (st : Sto) (d : D) : Option PyData := match d with
  | .ref n => match st.seq n with
    | some ds => (D.pyAll ds).map .list
    | none => none
  | d => d.pyN
section
variable {H : Hp} {ρ : List Addr}
mutual
theorem dp_N : ∀ {d : D} {v : V} {p : PyData}, EV K H ρ d v → d.pyN = some p → Dp K H v p
  | _, _, _, .non, e => by cases e; exact .non
  | _, _, _, .bl b, e => by cases e; exact .bl b
  | _, _, _, .int i, e => by cases e; exact .int i
  | _, _, _, .str s, e => by cases e; exact .str s
  | _, _, _, @EV.tup _ _ _ a ds vs h r, e => by
    unfold D.pyN at e
    cases q : D.pyAll ds with
    | none => rw [q] at e; cases e
    | some xs =>
      rw [q] at e
      cases e
      exact .tup h (dp_All r q)
  | _, _, _, .ref _, e => by cases e
  | _, _, _, .ty _, e => by cases e
  | _, _, _, .ob _, e => by cases e
  | _, _, _, @EV.kl _ _ _ a ds vs h r, e => by
    unfold D.pyN at e
    cases q : D.pyAll ds with
    | none => rw [q] at e; cases e
    | some xs =>
      rw [q] at e
      cases e
      exact .lst h.l (dp_All r q)
theorem dp_All : ∀ {ds : List D} {vs : List V} {ps : List PyData}, EVs K H ρ ds vs → D.pyAll ds = some ps → DpAll K H vs ps
  | _, _, _, .nil, e => by cases e; exact .nil
  | _, _, _, @EVs.cons _ _ _ d v ds vs h r, e => by
    unfold D.pyAll at e
    cases q : d.pyN with
    | none => rw [q] at e; cases e
    | some x =>
      cases q2 : D.pyAll ds with
      | none => rw [q, q2] at e; cases e
      | some xs =>
        rw [q, q2] at e
        cases e
        exact .cons (dp_N h q) (dp_All r q2)
end
theorem dp_of {d : D} {v : V} {p : PyData} {st : Sto} (h : EV K H ρ d v) (es : ES K G.T H ρ st) (e : d.py st = some p) : Dp K H v p := by
  cases h with
  | @ref n a hn =>
    unfold D.py at e
    dsimp only at e
    cases q : st.seq n with
    | none => rw [q] at e; cases e
    | some ds =>
      rw [q] at e
      dsimp only at e
      cases q2 : D.pyAll ds with
      | none => rw [q2] at e; cases e
      | some ps =>
        rw [q2] at e
        cases e
        obtain ⟨vs, g1, g2⟩ := es.seq hn (Sto.seq_of q)
        exact .lst g1 (dp_All g2 q2)
  | non => exact dp_N (ρ := ρ) .non e
  | bl b => exact dp_N (ρ := ρ) (.bl b) e
  | int i => exact dp_N (ρ := ρ) (.int i) e
  | str x => exact dp_N (ρ := ρ) (.str x) e
  | tup h r => exact dp_N (.tup h r) e
  | ty n => cases e
  | ob a => cases e
  | kl h r => exact dp_N (.kl h r) e
end
/-- scalars: told apart as they stand -/
def scalD : D → D → Option Bool
  | .non, .non => some true
  | .int i, .int j => some (decide (i = j))
  | .bl i, .bl j => some (decide (i = j))
  | .str i, .str j => some (decide (i = j))
  | .non, .int _ => some false | .int _, .non => some false
  | .non, .bl _ => some false | .bl _, .non => some false
  | .non, .str _ => some false | .str _, .non => some false
  | .int _, .str _ => some false | .str _, .int _ => some false
  | .bl _, .str _ => some false | .str _, .bl _ => some false
  | _, _ => none
def eqvD (x y : D) (st : Sto) : Option Bool := match scalD x y with
  | some b => some b
  | none => match x.py st, y.py st with
    | some d, some e => if SeqAt.shaped d = true ∧ SeqAt.shaped e = true then some (PyData.eqv d e) else none
    | _, _ => none
def eqD : F2 := fun x y st => match eqvD x y st with
  | some b => .ok (.bl b) st
  | none => .no
def neD : F2 := fun x y st => match eqvD x y st with
  | some b => .ok (.bl (!b)) st
  | none => .no
theorem scal_of {H : Hp} {ρ : List Addr} {x y : D} {vx vy : V} {b : Bool} (ex : EV K H ρ x vx) (ey : EV K H ρ y vy) (h : scalD x y = some b) : scal vx vy = true ∧ decide (vx = vy) = b := by
  cases ex <;> cases ey <;> first
    | (cases h; exact ⟨rfl, by simp⟩)
    | (cases h; done)
def rEqA (K : PySem.W.Frag) : R2 := fun x y H Q => rEq x y H Q ∨ rEqD K x y H Q
def rNeA (K : PySem.W.Frag) : R2 := fun x y H Q => rNe x y H Q ∨ rNeD K x y H Q
theorem op_eqA (hu : X.A.units + 64 < cLine) : OpR X (compareOp .Eq) (rEqA X.K) := op_eq.or (op_eqD hu)
theorem op_neA (hu : X.A.units + 64 < cLine) : OpR X (compareOp .NotEq) (rNeA X.K) := op_ne.or (op_neD hu)
theorem eqv_or {H : Hp} {ρ : List Addr} {st : Sto} {x y : D} {vx vy : V} {b : Bool} (ex : EV K H ρ x vx) (ey : EV K H ρ y vy) (es : ES K G.T H ρ st) (h : eqvD x y st = some b) :
    (scal vx vy = true ∧ decide (vx = vy) = b) ∨ ∃ d e, Dp K H vx d ∧ Dp K H vy e ∧ SeqAt.shaped d = true ∧ SeqAt.shaped e = true ∧ PyData.eqv d e = b := by
  unfold eqvD at h
  cases q : scalD x y with
  | some c =>
    rw [q] at h
    cases h
    exact .inl (scal_of ex ey q)
  | none =>
    rw [q] at h
    dsimp only at h
    cases q1 : x.py st with
    | none => rw [q1] at h; cases h
    | some d =>
      cases q2 : y.py st with
      | none => rw [q1, q2] at h; cases h
      | some e =>
        rw [q1, q2] at h
        dsimp only at h
        split at h
        · rename_i hs
          cases h
          exact .inr ⟨d, e, dp_of ex es q1, dp_of ey es q2, hs.1, hs.2, rfl⟩
        · cases h
theorem os_eq : OpS K G (rEqA K) eqD := by
  intro x y vx vy ρ st H Q ex ey es h
  unfold eqD at h
  cases q : eqvD x y st with
  | none => rw [q] at h; exact h.elim
  | some b =>
    rw [q] at h
    have z := h.now (.bl b) es
    rcases eqv_or ex ey es q with ⟨h1, h2⟩ | ⟨d, e, h1, h2, h3, h4, h5⟩
    · exact .inl ⟨h1, by rw [h2]; exact z⟩
    · exact .inr ⟨d, e, h1, h2, h3, h4, by rw [h5]; exact z⟩
theorem os_ne : OpS K G (rNeA K) neD := by
  intro x y vx vy ρ st H Q ex ey es h
  unfold neD at h
  cases q : eqvD x y st with
  | none => rw [q] at h; exact h.elim
  | some b =>
    rw [q] at h
    have z := h.now (.bl (!b)) es
    rcases eqv_or ex ey es q with ⟨h1, h2⟩ | ⟨d, e, h1, h2, h3, h4, h5⟩
    · exact .inl ⟨h1, by rw [h2]; exact z⟩
    · exact .inr ⟨d, e, h1, h2, h3, h4, by rw [h5]; exact z⟩
/-! #### in -/
def D.flat : D → Bool
  | .tup _ => false
  | .ref _ => false
  | .ty _ => false
  | .ob _ => false
  | .kl _ => false
  | _ => true
def eqF : D → D → Bool
  | .non, .non => true
  | .bl a, .bl b => a == b
  | .bl a, .int b => (if a then 1 else 0) == b
  | .int a, .bl b => a == (if b then 1 else 0)
  | .int a, .int b => a == b
  | .str a, .str b => a == b
  | _, _ => false
def inD (x : D) (ds : List D) : Bool := ds.any fun y => eqF y x
def memD (neg : Bool) : F2 := fun x y st => match y.items st with
  | some ds => if x.flat = true ∧ ds.all D.flat = true then .ok (.bl (if neg then !inD x ds else inD x ds)) st else .no
  | none => .no
theorem flat_of {H : Hp} {ρ : List Addr} {x : D} {v : V} (e : EV K H ρ x v) (h : x.flat = true) : flatV v = true := by
  cases e <;> first | rfl | (cases h; done)
theorem flats_of {H : Hp} {ρ : List Addr} : ∀ {ds : List D} {vs : List V}, EVs K H ρ ds vs → ds.all D.flat = true → vs.all flatV = true
  | _, _, .nil, _ => rfl
  | _, _, .cons h r, e => by
    rw [List.all_cons, Bool.and_eq_true] at e ⊢
    exact ⟨flat_of h e.1, flats_of r e.2⟩
theorem eqF_of {H : Hp} {ρ : List Addr} {x y : D} {v w : V} (e : EV K H ρ x v) (e' : EV K H ρ y w) (h : x.flat = true) (h' : y.flat = true) : eqV v w = eqF x y := by
  cases e <;> cases e' <;> first | rfl | (cases h; done) | (cases h'; done)
theorem inV_of {H : Hp} {ρ : List Addr} {x : D} {v : V} (e : EV K H ρ x v) (h : x.flat = true) : ∀ {ds : List D} {vs : List V}, EVs K H ρ ds vs → ds.all D.flat = true → inV v vs = inD x ds
  | _, _, .nil, _ => rfl
  | _, _, .cons q r, hd => by
    rw [List.all_cons, Bool.and_eq_true] at hd
    have ih := inV_of e h r hd.2
    unfold inV inD at ih ⊢
    rw [List.any_cons, List.any_cons, ih, eqF_of q e hd.1 h]
theorem os_mem {neg : Bool} : OpS K G (rIn K neg) (memD neg) := by
  intro x y vx vy ρ st H Q ex ey es h
  unfold memD at h
  cases q : y.items st with
  | none => rw [q] at h; exact h.elim
  | some ds =>
    rw [q] at h
    dsimp only at h
    split at h
    · rename_i hf
      obtain ⟨a, vs, e1, e2, e3⟩ := ey.items es q
      refine ⟨a, vs, e1, e2, flat_of ex hf.1, flats_of e3 hf.2, ?_⟩
      rw [inV_of ex hf.1 e3 hf.2]
      exact h.now (.bl _) es
    · exact h.elim
/-! #### is None -/
def isND (neg : Bool) (a : ME) : ME := fun env st => (a env st).bind fun x st => .ok (.bl (match x with
  | .non => !neg
  | _ => neg)) st
/-! #### places -/
def ixD : F2 := fun x y st => match y with
  | .int i => match x with
    | .str s => if s.length ≤ sizeLine then match atI s.cps.toList i with
      | some c => .ok (.str ⟨#[c]⟩) st
      | none => .no
      else .no
    | x => match x.items st with
      | some ds => match atI ds i with
        | some d => .ok d st
        | none => .no
      | none => .no
  | _ => .no
theorem EVs.atI {H : Hp} {ρ : List Addr} {ds : List D} {vs : List V} {i : Int} {d : D} (h : EVs K H ρ ds vs) (e : L2.atI ds i = some d) : ∃ v, L2.atI vs i = some v ∧ EV K H ρ d v := by
  unfold L2.atI at e ⊢
  rw [← h.length]
  cases q : ixN ds.length i with
  | none => rw [q] at e; cases e
  | some j =>
    rw [q] at e
    exact h.get e
theorem os_ix : OpS K G (rIx K) ixD := by
  intro x y vx vy ρ st H Q ex ey es h
  unfold ixD at h
  cases ey with
  | int i =>
    dsimp only at h
    have seq : ∀ o : Option (List D), x.items st = o → PostE K G H ρ Q (match o with
        | some ds => match L2.atI ds i with
          | some d => .ok d st
          | none => .no
        | none => .no) → rIx K vx (.int i) H Q := by
      intro o eo hq
      cases o with
      | none => exact hq.elim
      | some ds =>
        dsimp only at hq
        cases q2 : L2.atI ds i with
        | none => rw [q2] at hq; exact hq.elim
        | some d =>
          rw [q2] at hq
          obtain ⟨a, vs, e1, e2, e3⟩ := ex.items es eo
          obtain ⟨v, g1, g2⟩ := e3.atI q2
          rcases e2 with e2 | e2
          · exact .inl ⟨a, vs, i, v, e1, rfl, e2, g1, hq.now g2 es⟩
          · exact .inr (.inl ⟨a, vs, i, v, e1, rfl, e2, g1, hq.now g2 es⟩)
    cases ex with
    | str s =>
      dsimp only at h
      split at h
      · rename_i hl
        split at h
        · rename_i c hc
          exact .inr (.inr ⟨s, i, c, rfl, rfl, hl, hc, h.now (.str _) es⟩)
        · exact h.elim
      · exact h.elim
    | tup h1 h2 => exact seq _ rfl h
    | ref hn => exact seq _ rfl h
    | kl h1 h2 => exact seq _ rfl h
    | _ => exact h.elim
  | _ => exact h.elim
/-- a[i] = v -/
def setD : D → D → D → Sto → R Unit := fun o i v st => match o, i with
  | .ref n, .int k => match st[n]? with
    | some (.lst ds) => match ixN ds.length k with
      | some j => .ok () (st.set n (.lst (ds.set j v)))
      | none => .no
    | _ => .no
  | _, _ => .no
theorem ss_setL : SetS K G rSetL setD := by
  intro o i d vo vi vd ρ st H Q eo ei ed es h
  unfold setD at h
  split at h
  · rename_i n k
    split at h
    · rename_i ds e1
      split at h
      · rename_i j e2
        obtain ⟨a, rfl, hn⟩ := eo.ofRef
        cases ei.ofInt
        obtain ⟨vs, q1, q2⟩ := es.cell n a _ hn e1
        exact ⟨a, vs, k, j, rfl, rfl, q1, by rw [← q2.length]; exact e2, h ρ _ () (Fr.write (List.mem_of_getElem? hn) q1) trivial (es.write hn q1 (q2.set ed j))⟩
      · exact h.elim
    · exact h.elim
  · exact h.elim
end
section
variable {X : Cx} {G : Gx} {a b e : Expr} {es : List Expr} {ta tb : TE} {tas : TA} {ma mb : ME} {mas : MA} {pos : Pos}
theorem se_ix (ha : SE X G a ta ma) (hb : SE X G b tb mb) (hs : PlainIx b := by exact fun _ _ => rfl) : SE X G (.Subscript a b pos) (tOp (rIx X.K) ta tb) (dBin ixD ma mb) := ⟨pe_ix ix_seq ha.pe hb.pe hs, fun σ env ρ st H Q ev es h => sd_bin ha hb ev es h fun x y vx vy ρ2 st2 H2 e1 e2 es2 _ h2 => os_ix x y vx vy ρ2 st2 H2 Q e1 e2 es2 h2⟩
theorem sd_isN {neg : Bool} (ha : SE X G a ta ma) (σ : L2.St) (env : Ev) (ρ : List Addr) (st : Sto) (H : Hp) (Q : VK) (ev : EVo X.K H ρ env σ) (es : ES X.K G.T H ρ st) (h : PostE X.K G H ρ Q (isND neg ma env st)) :
    ta σ H fun x H1 => Q (.bl (if neg then !decide (x = .non) else decide (x = .non))) H1 := by
  refine ha.sd σ env ρ st H _ ev es (h.bind fun x st1 ρ1 H1 vx f1 e1 es1 h1 => ?_)
  cases e1 <;> cases neg <;> exact h1.now (.bl _) es1
theorem se_isN {j pos'} (ha : SE X G a ta ma) : SE X G (.Compare a [.Is] [.Constant .none j pos'] pos) (tIsN ta) (isND false ma) := ⟨pe_cmp (pc_isN ha.pe) rfl, fun σ env ρ st H Q ev es h => sd_isN ha σ env ρ st H Q ev es h⟩
theorem se_notN {j pos'} (ha : SE X G a ta ma) : SE X G (.Compare a [.IsNot] [.Constant .none j pos'] pos) (tNotN ta) (isND true ma) := ⟨pe_cmp (pc_notN ha.pe) rfl, fun σ env ρ st H Q ev es h => sd_isN ha σ env ρ st H Q ev es h⟩
theorem st_isN {j pos'} (ha : SE X G a ta ma) : ST X G (.Compare a [.Is] [.Constant .none j pos'] pos) (L2.tB (tIsN ta)) (tVal (isND false ma)) := ⟨pt_cmp (pc_isN ha.pe) rfl, fun σ env ρ st H Q ev es h => sd_val (fun σ env ρ st H Q ev es h => sd_isN ha σ env ρ st H Q ev es h) ev es h⟩
theorem st_notN {j pos'} (ha : SE X G a ta ma) : ST X G (.Compare a [.IsNot] [.Constant .none j pos'] pos) (L2.tB (tNotN ta)) (tVal (isND true ma)) := ⟨pt_cmp (pc_notN ha.pe) rfl, fun σ env ρ st H Q ev es h => sd_val (fun σ env ρ st H Q ev es h => sd_isN ha σ env ρ st H Q ev es h) ev es h⟩
end
end Dn

set_option Elab.async false
set_option linter.all false
set_option maxRecDepth 100000
set_option maxHeartbeats 2000000
/-! Built-in functions and methods on data. -/
namespace Dn
open PySem PySem.Spec PyProof.Rows L2

section
variable {X : Cx} {K : PySem.W.Frag} {G : Gx} {H : Hp} {ρ : List Addr} {st : Sto} {Q : VK}
theorem EVs.one {xs : List D} {d : D} {vs : List V} (h : EVs K H ρ (d :: xs) vs) (hx : xs = []) : ∃ v, vs = [v] ∧ EV K H ρ d v := by
  subst hx
  cases h with
  | cons a b => cases b; exact ⟨_, rfl, a⟩
theorem EVs.two {d e : D} {vs : List V} (h : EVs K H ρ [d, e] vs) : ∃ v w, vs = [v, w] ∧ EV K H ρ d v ∧ EV K H ρ e w := by
  cases h with
  | cons a b =>
    obtain ⟨w, rfl, b'⟩ := b.one rfl
    exact ⟨_, w, rfl, a, b'⟩
/-- len -/
def lenD : FN := fun xs st => match xs with
  | [.str s] => if s.length ≤ sizeLine then .ok (.int s.length) st else .no
  | [x] => match x.items st with
    | some ds => .ok (.int ds.length) st
    | none => .no
  | _ => .no
theorem cs_len : CallS K G (fun xs H Q => ∃ x n, xs = [x] ∧ LenV K x H n ∧ Q (.int n) H) lenD := by
  intro xs vs ρ st H Q e es h
  unfold lenD at h
  split at h
  · rename_i s
    split at h
    · rename_i hl
      obtain ⟨v, rfl, ev⟩ := e.one rfl
      cases ev.ofStr
      exact ⟨_, s.length, rfl, ⟨hl, rfl⟩, h.now (.int _) es⟩
    · exact h.elim
  · rename_i x hx
    cases q : x.items st with
    | none => rw [q] at h; exact h.elim
    | some ds =>
      rw [q] at h
      obtain ⟨v, rfl, ev⟩ := e.one rfl
      obtain ⟨a, ws, rfl, h1, h2⟩ := ev.items es q
      have z := h.now (.int _) es
      rw [h2.length] at z
      rcases h1 with h1 | h1
      · exact ⟨_, ws.length, rfl, .inl ⟨ws, h1, rfl⟩, z⟩
      · exact ⟨_, ws.length, rfl, .inr ⟨ws, h1, rfl⟩, z⟩
  · exact h.elim
/-- abs, gcd, max, min of two -/
def absD : FN := fun xs st => match xs with
  | [.int i] => .ok (.int (if i < 0 then -i else i)) st
  | _ => .no
theorem cs_abs : CallS K G (fun xs H Q => ∃ i, xs = [.int i] ∧ Q (.int (if i < 0 then -i else i)) H) absD := by
  intro xs vs ρ st H Q e es h
  unfold absD at h
  split at h
  · rename_i i
    obtain ⟨v, rfl, ev⟩ := e.one rfl
    cases ev.ofInt
    exact ⟨i, rfl, h.now (.int _) es⟩
  · exact h.elim
def int2D (g : Int → Int → Int) : FN := fun xs st => match xs with
  | [.int i, .int j] => .ok (.int (g i j)) st
  | _ => .no
theorem cs_int2 {g : Int → Int → Int} : CallS K G (fun xs H Q => ∃ i j, xs = [.int i, .int j] ∧ Q (.int (g i j)) H) (int2D g) := by
  intro xs vs ρ st H Q e es h
  unfold int2D at h
  split at h
  · rename_i i j
    obtain ⟨v, w, rfl, ev, ew⟩ := e.two
    cases ev.ofInt
    cases ew.ofInt
    exact ⟨i, j, rfl, h.now (.int _) es⟩
  · exact h.elim
abbrev gcdD : FN := int2D fun i j => ((Nat.gcd i.natAbs j.natAbs : Nat) : Int)
abbrev max2D : FN := int2D fun i j => if j > i then j else i
abbrev min2D : FN := int2D fun i j => if j < i then j else i
/-- isinstance(x, T), T a built-in class -/
def D.tyName (st : Sto) : D → Option String
  | .non => some "NoneType"
  | .bl _ => some "bool"
  | .int _ => some "int"
  | .str _ => some "str"
  | .tup _ => some "tuple"
  | .ref n => (st.seq n).map fun _ => "list"
  | .kl _ => some "list"
  | .ty _ => none
  | .ob _ => none
def isiD : FN := fun xs st => match xs with
  | [x, .ty n] => match x.tyName st with
    | some t => match kitB t n with
      | some b => .ok (.bl b) st
      | none => .no
    | none => .no
  | _ => .no
theorem ty_of {x : D} {v : V} {t : String} (e : EV K H ρ x v) (es : ES K G.T H ρ st) (h : x.tyName st = some t) : TyX K H v (.type t) := by
  cases e with
  | non => cases h; exact .base .non
  | bl b => cases h; exact .base (.bl b)
  | int i => cases h; exact .base (.int i)
  | str s => cases h; exact .base (.str s)
  | tup hq r =>
    cases h
    rcases hq with (hq | ⟨o, hq⟩) | ⟨o, _, _, h1, h2, _⟩
    · exact .base (.tup hq)
    · exact .fTuple hq
    · exact .kTuple h1 h2
  | @ref n a hn =>
    unfold D.tyName at h
    dsimp only at h
    cases q : st.seq n with
    | none => rw [q] at h; cases h
    | some ds =>
      rw [q] at h
      cases h
      obtain ⟨vs, q1, _⟩ := es.cell n a _ hn (Sto.seq_of q)
      exact .base (.lst q1)
  | kl hq r =>
    cases h
    rcases hq with (⟨o, hq⟩ | ⟨hq, _⟩) | ⟨o, _, _, h1, h2, _⟩
    · exact .base (.frz hq)
    · exact .base (.lst hq)
    · exact .kList h1 h2
  | ty n => cases h
  | ob a => cases h
theorem cs_isi : CallS K G (rIsi K) isiD := by
  intro xs vs ρ st H Q e es h
  unfold isiD at h
  split at h
  · rename_i x n
    cases q : x.tyName st with
    | none => rw [q] at h; exact h.elim
    | some t =>
      rw [q] at h
      dsimp only at h
      cases q2 : kitB t n with
      | none => rw [q2] at h; exact h.elim
      | some b =>
        rw [q2] at h
        obtain ⟨v, w, rfl, ev, ew⟩ := e.two
        cases ew
        exact ⟨v, .ty n, .type t, .type n, b, rfl, .ty n, ty_of ev es q, kit_ty q2, h.now (.bl b) es⟩
  · exact h.elim
/-- all, any: lists of truth values -/
def D.bls : List D → Option (List Bool)
  | [] => some []
  | .bl b :: ds => (D.bls ds).map (b :: ·)
  | _ :: _ => none
def D.ints : List D → Option (List Int)
  | [] => some []
  | .int b :: ds => (D.ints ds).map (b :: ·)
  | _ :: _ => none
def D.strs : List D → Option (List Str)
  | [] => some []
  | .str b :: ds => (D.strs ds).map (b :: ·)
  | _ :: _ => none
theorem D.bls_of : ∀ {ds : List D} {bs : List Bool}, D.bls ds = some bs → ds = bs.map .bl
  | [], _, h => by cases h; rfl
  | .bl b :: ds, _, h => by
    unfold D.bls at h
    cases q : D.bls ds with
    | none => rw [q] at h; cases h
    | some cs => rw [q] at h; cases h; rw [D.bls_of q]; rfl
  | .non :: _, _, h => nomatch h
  | .int _ :: _, _, h => nomatch h
  | .str _ :: _, _, h => nomatch h
  | .tup _ :: _, _, h => nomatch h
  | .ref _ :: _, _, h => nomatch h
  | .ty _ :: _, _, h => nomatch h
  | .ob _ :: _, _, h => nomatch h
  | .kl _ :: _, _, h => nomatch h
theorem D.ints_of : ∀ {ds : List D} {bs : List Int}, D.ints ds = some bs → ds = bs.map .int
  | [], _, h => by cases h; rfl
  | .int b :: ds, _, h => by
    unfold D.ints at h
    cases q : D.ints ds with
    | none => rw [q] at h; cases h
    | some cs => rw [q] at h; cases h; rw [D.ints_of q]; rfl
  | .non :: _, _, h => nomatch h
  | .bl _ :: _, _, h => nomatch h
  | .str _ :: _, _, h => nomatch h
  | .tup _ :: _, _, h => nomatch h
  | .ref _ :: _, _, h => nomatch h
  | .ty _ :: _, _, h => nomatch h
  | .ob _ :: _, _, h => nomatch h
  | .kl _ :: _, _, h => nomatch h
theorem D.strs_of : ∀ {ds : List D} {bs : List Str}, D.strs ds = some bs → ds = bs.map .str
  | [], _, h => by cases h; rfl
  | .str b :: ds, _, h => by
    unfold D.strs at h
    cases q : D.strs ds with
    | none => rw [q] at h; cases h
    | some cs => rw [q] at h; cases h; rw [D.strs_of q]; rfl
  | .non :: _, _, h => nomatch h
  | .bl _ :: _, _, h => nomatch h
  | .int _ :: _, _, h => nomatch h
  | .tup _ :: _, _, h => nomatch h
  | .ref _ :: _, _, h => nomatch h
  | .ty _ :: _, _, h => nomatch h
  | .ob _ :: _, _, h => nomatch h
  | .kl _ :: _, _, h => nomatch h
@[simp] theorem D.bls_map (bs : List Bool) : D.bls (bs.map .bl) = some bs := by
  induction bs with
  | nil => rfl
  | cons b bs ih => rw [List.map_cons, D.bls, ih]; rfl
@[simp] theorem D.ints_map (bs : List Int) : D.ints (bs.map .int) = some bs := by
  induction bs with
  | nil => rfl
  | cons b bs ih => rw [List.map_cons, D.ints, ih]; rfl
@[simp] theorem D.strs_map (bs : List Str) : D.strs (bs.map .str) = some bs := by
  induction bs with
  | nil => rfl
  | cons b bs ih => rw [List.map_cons, D.strs, ih]; rfl
theorem EVs.bls {bs : List Bool} : ∀ {vs : List V}, EVs K H ρ (bs.map .bl) vs → vs = bs.map .bl := by
  induction bs with
  | nil => intro vs h; cases h; rfl
  | cons b bs ih => intro vs h; cases h with | cons h1 h2 => cases h1; rw [ih h2]; rfl
theorem EVs.ints {bs : List Int} : ∀ {vs : List V}, EVs K H ρ (bs.map .int) vs → vs = bs.map .int := by
  induction bs with
  | nil => intro vs h; cases h; rfl
  | cons b bs ih => intro vs h; cases h with | cons h1 h2 => cases h1; rw [ih h2]; rfl
theorem EVs.strs {bs : List Str} : ∀ {vs : List V}, EVs K H ρ (bs.map .str) vs → vs = bs.map .str := by
  induction bs with
  | nil => intro vs h; cases h; rfl
  | cons b bs ih => intro vs h; cases h with | cons h1 h2 => cases h1; rw [ih h2]; rfl
theorem evs_strs {bs : List Str} : EVs K H ρ (bs.map .str) (bs.map .str) := by
  induction bs with
  | nil => exact .nil
  | cons b bs ih => exact .cons (.str b) ih
/-- a list of the store -/
def lstOf (st : Sto) (xs : List D) : Option (List D) := match xs with
  | [.ref n] => st.seq n
  | _ => none
theorem EVs.lst {xs : List D} {vs : List V} {ds : List D} (h : EVs K H ρ xs vs) (es : ES K G.T H ρ st) (e : lstOf st xs = some ds) : ∃ a ws, vs = [.ref a] ∧ SqL K H a ws ∧ EVs K H ρ ds ws := by
  unfold lstOf at e
  split at e
  · rename_i n
    obtain ⟨v, rfl, ev⟩ := h.one rfl
    obtain ⟨a, rfl, hn⟩ := ev.ofRef
    obtain ⟨ws, q1, q2⟩ := es.seq hn (Sto.seq_of e)
    exact ⟨a, ws, rfl, q1, q2⟩
  · cases e
def blsD (g : List Bool → Bool) : FN := fun xs st => match lstOf st xs with
  | some ds => match D.bls ds with
    | some bs => .ok (.bl (g bs)) st
    | none => .no
  | none => .no
abbrev allD : FN := blsD fun bs => bs.all id
abbrev anyD : FN := blsD fun bs => bs.any id
theorem cs_bls {g : List Bool → Bool} : CallS K G (fun vs H Q => ∃ (a : Addr) (bs : List Bool), vs = [V.ref a] ∧ SqL K H a (bs.map V.bl) ∧ Q (.bl (g bs)) H) (blsD g) := by
  intro xs vs ρ st H Q e es h
  unfold blsD at h
  split at h
  · rename_i ds q
    split at h
    · rename_i bs q2
      obtain ⟨a, ws, rfl, h1, h2⟩ := e.lst es q
      rw [D.bls_of q2] at h2
      rw [h2.bls] at h1
      exact ⟨a, bs, rfl, h1, h.now (.bl _) es⟩
    · exact h.elim
  · exact h.elim
/-- sum of ints -/
def sumD : FN := fun xs st => match lstOf st xs with
  | some ds => match D.ints ds with
    | some ns => .ok (.int ns.sum) st
    | none => .no
  | none => .no
theorem cs_sum : CallS K G (rSum K) sumD := by
  intro xs vs ρ st H Q e es h
  unfold sumD at h
  split at h
  · rename_i ds q
    split at h
    · rename_i bs q2
      obtain ⟨a, ws, rfl, h1, h2⟩ := e.lst es q
      rw [D.ints_of q2] at h2
      rw [h2.ints] at h1
      exact ⟨a, bs, rfl, h1, h.now (.int _) es⟩
    · exact h.elim
  · exact h.elim
/-- tuple(x), list(x) -/
def tupleD : FN := fun xs st => match xs with
  | [x] => match x.items st with
    | some ds => .ok (.tup ds) st
    | none => .no
  | _ => .no
theorem cs_tuple : CallS K G (fun xs H Q => ∃ p ys, xs = [.ref p] ∧ ((SqL K H p ys ∧ ∀ l, H l = none → Q (.ref l) (upd H l (.tup ys))) ∨ (SqT K H p ys ∧ Q (.ref p) H))) tupleD := by
  intro xs vs ρ st H Q e es h
  unfold tupleD at h
  split at h
  · rename_i x
    split at h
    · rename_i ds q
      obtain ⟨v, rfl, ev⟩ := e.one rfl
      cases ev with
      | @tup a ds' ws h1 h2 =>
        cases q
        exact ⟨a, ws, rfl, .inr ⟨h1, h.now (.tup h1 h2) es⟩⟩
      | @kl a ds' ws h1 h2 =>
        cases q
        exact ⟨a, ws, rfl, .inl ⟨h1.l, newT h h2 es⟩⟩
      | @ref n a hn =>
        obtain ⟨ws, q1, q2⟩ := es.seq hn (Sto.seq_of q)
        exact ⟨a, ws, rfl, .inl ⟨q1, newT h q2 es⟩⟩
      | _ => cases q
    · exact h.elim
  · exact h.elim
def listD : FN := fun xs st => match xs with
  | [x] => match x.items st with
    | some ds => .ok (.ref st.length) (st ++ [.lst ds])
    | none => .no
  | _ => .no
theorem cs_list : CallS K G (fun xs H Q => ∃ p ys, xs = [.ref p] ∧ (SqL K H p ys ∨ SqT K H p ys) ∧ ∀ l, H l = none → Q (.ref l) (upd H l (.lst ys))) listD := by
  intro xs vs ρ st H Q e es h
  unfold listD at h
  split at h
  · rename_i x
    split at h
    · rename_i ds q
      obtain ⟨v, rfl, ev⟩ := e.one rfl
      obtain ⟨a, ws, rfl, h1, h2⟩ := ev.items es q
      exact ⟨a, ws, rfl, h1, newL h h2 es⟩
    · exact h.elim
  · exact h.elim
/-- str(n), int(b), bool(n) -/
def strD : FN := fun xs st => match xs with
  | [.int i] => if i.natAbs.log2 < 1920 then .ok (.str (toString i)) st else .no
  | _ => .no
theorem cs_str : CallS K G (fun xs H Q => ∃ i, xs = [.int i] ∧ i.natAbs.log2 < 1920 ∧ Q (.str (toString i)) H) strD := by
  intro xs vs ρ st H Q e es h
  unfold strD at h
  split at h
  · rename_i i
    split at h
    · rename_i hl
      obtain ⟨v, rfl, ev⟩ := e.one rfl
      cases ev.ofInt
      exact ⟨i, rfl, hl, h.now (.str _) es⟩
    · exact h.elim
  · exact h.elim
def intD : FN := fun xs st => match xs with
  | [.int i] => .ok (.int i) st
  | [.bl k] => .ok (.int (if k then 1 else 0)) st
  | _ => .no
theorem cs_int : CallS K G (fun xs H Q => (∃ i, xs = [.int i] ∧ Q (.int i) H) ∨ ∃ k, xs = [.bl k] ∧ Q (.int (if k then 1 else 0)) H) intD := by
  intro xs vs ρ st H Q e es h
  unfold intD at h
  split at h
  · rename_i i
    obtain ⟨v, rfl, ev⟩ := e.one rfl
    cases ev.ofInt
    exact .inl ⟨i, rfl, h.now (.int _) es⟩
  · rename_i k
    obtain ⟨v, rfl, ev⟩ := e.one rfl
    cases ev.ofBl
    exact .inr ⟨k, rfl, h.now (.int _) es⟩
  · exact h.elim

/-! ### methods -/
abbrev FM := D → List D → Sto → R D
/-- the receiver's kind, known ahead of the arguments -/
def kindD (T : String) (o : D) (st : Sto) : Bool := match o with
  | .str _ => decide (T = "str")
  | .ref n => match st[n]? with
    | some (.lst _) => decide (T = "list")
    | _ => false
  | .kl _ => decide (T = "list")
  | _ => false
theorem kind_of {T : String} {o : D} {v : V} (e : EV K H ρ o v) (es : ES K G.T H ρ st) (h : kindD T o st = true) : tyV K T v H := by
  cases e with
  | str s => exact (show T = "str" from of_decide_eq_true h)
  | @ref n a hn =>
    unfold kindD at h
    dsimp only at h
    cases q : st[n]? with
    | none => rw [q] at h; cases h
    | some c =>
      have z := es.cell n a c hn q
      rw [q] at h
      cases c with
      | lst ds =>
        obtain ⟨vs, q1, _⟩ := z
        exact .inl ⟨of_decide_eq_true h, vs, .inl (.inl q1)⟩
      | dct kvs => cases h
      | dtt _ => cases h
      | obj _ _ => cases h
  | @kl a ds vs hq r => exact .inl ⟨of_decide_eq_true (show decide (T = "list") = true from h), vs, hq.l⟩
  | _ => cases h
def dMeth (T : String) (f : FM) (a : ME) (as : MA) : ME := fun env st => (a env st).bind fun o st => if kindD T o st = true then (as env st).bind fun xs st => f o xs st else .no
def MtSo (K : PySem.W.Frag) (G : Gx) (r : V → List V → Hp → VK → Prop) (f : FM) : Prop :=
  ∀ (o : D) (xs : List D) (vo : V) (vs : List V) (ρ : List Addr) (st : Sto) (H : Hp) (Q : VK), EV K H ρ o vo → EVs K H ρ xs vs → ES K G.T H ρ st → PostE K G H ρ Q (f o xs st) → r vo vs H Q
end
section
variable {X : Cx} {G : Gx} {a b e o : Expr} {es : List Expr} {ta tb to : TE} {tas : TA} {ma mb mo : ME} {mas : MA} {pos apos cpos : Pos} {T id : String} {name : Str} {r : V → List V → Hp → VK → Prop} {f : FM}
theorem se_meth (pa : PlainAttrs T) (slot : Slot T name id) (hty : typeOf (.builtin id) = pure (.type "method_descriptor")) (hm : MtR X id r) (hs : MtSo X.K G r f) (ho : SE X G o to mo) (ha : SA X G (e :: es) tas mas)
    (hbase : attributeBase o name X.env (eval o X.env) = eval o X.env := by rfl)
    (hfew : ((backTo cpos (starEach (e :: es) X.env)).all (fun x => !x.1) && (backToKw cpos (keywordEach [] X.env)).all (fun x => x.1.isSome)
      && decide ((e :: es).length + ([] : List Keyword).length + (if ([] : List Keyword).isEmpty then 0 else 1) < 30)) = true := by rfl)
    (hline : (apos.endLine == cpos.line) = true := by rfl) (hst : starEach (e :: es) X.env = (false, eval e X.env) :: starEach es X.env := by rfl) (hplain : (backTo cpos (starEach es X.env)).any (·.1) = false := by rfl) :
    SE X G (.Call (.Attribute o name apos) (e :: es) [] cpos) (tBM X.K T r to tas) (dMeth T f mo mas) := ⟨pe_bm pa slot hty hm ho.pe ha.pe hbase hfew hline hst hplain, fun σ env ρ st H Q ev es h => by
  refine ho.sd σ env ρ st H _ ev es (h.bind fun x st1 ρ1 H1 vx f1 e1 es1 h1 => ?_)
  split at h1
  · rename_i hk
    refine ⟨kind_of e1 es1 hk, ?_⟩
    refine ha.sd σ env ρ1 st1 H1 _ (ev.mono f1) es1 (h1.bind fun xs st2 ρ2 H2 vs f2 e2 es2 h2 => ?_)
    exact hs x xs vx vs ρ2 st2 H2 Q (e1.mono f2) e2 es2 h2
  · exact h1.elim⟩
theorem se_meth0 (pa : PlainAttrs T) (slot : Slot T name id) (hty : typeOf (.builtin id) = pure (.type "method_descriptor")) (hm : MtR X id r) (hs : MtSo X.K G r f) (ho : SE X G o to mo)
    (hbase : attributeBase o name X.env (eval o X.env) = eval o X.env := by rfl) (hline : (apos.endLine == cpos.line) = true := by rfl) :
    SE X G (.Call (.Attribute o name apos) [] [] cpos) (tBM0 X.K T r to) (dMeth T f mo aNil) := ⟨pe_bm0 pa slot hty hm ho.pe hbase hline, fun σ env ρ st H Q ev es h => by
  refine ho.sd σ env ρ st H _ ev es (h.bind fun x st1 ρ1 H1 vx f1 e1 es1 h1 => ?_)
  split at h1
  · rename_i hk
    exact ⟨kind_of e1 es1 hk, hs x [] vx [] ρ1 st1 H1 Q e1 .nil es1 h1⟩
  · exact h1.elim⟩
end
section
variable {X : Cx} {K : PySem.W.Frag} {G : Gx}
def appendD : FM := fun o xs st => match o, xs with
  | .ref n, [y] => match st[n]? with
    | some (.lst ds) => if ds.length < 100000 then .ok .non (st.set n (.lst (ds ++ [y]))) else .no
    | _ => .no
  | _, _ => .no
theorem ms_append : MtSo K G rAppend appendD := by
  intro o xs vo vs ρ st H Q eo exs es h
  unfold appendD at h
  split at h
  · rename_i n y
    split at h
    · rename_i ds q
      split at h
      · rename_i hl
        obtain ⟨a, rfl, hn⟩ := eo.ofRef
        obtain ⟨v, rfl, ev⟩ := exs.one rfl
        obtain ⟨ws, q1, q2⟩ := es.cell n a _ hn q
        exact ⟨a, ws, v, rfl, rfl, q1, by rw [← q2.length]; exact Nat.lt_of_lt_of_le hl line5, h ρ _ _ (Fr.write (List.mem_of_getElem? hn) q1) .non (es.write hn q1 (q2.append (.cons ev .nil)))⟩
      · exact h.elim
    · exact h.elim
  · exact h.elim
def joinD : FM := fun o xs st => match o, xs with
  | .str a, [x] => match x.items st with
    | some ds => match D.strs ds with
      | some ys => if (ys.map (·.length)).sum + ys.length * a.length ≤ 16777216 then .ok (.str (Txt.join a ys)) st else .no
      | none => .no
    | none => .no
  | _, _ => .no
def rJoin (K : PySem.W.Frag) : V → List V → Hp → VK → Prop := fun x xs H Q => ∃ a p, ∃ ys : List Str, x = .str a ∧ xs = [.ref p] ∧ (SqL K H p (ys.map V.str) ∨ SqT K H p (ys.map V.str)) ∧ (ys.map (·.length)).sum + ys.length * a.length ≤ 16777216 ∧ Q (.str (Txt.join a ys)) H
theorem ms_join : MtSo K G (rJoin K) joinD := by
  intro o xs vo vs ρ st H Q eo exs es h
  unfold joinD at h
  split at h
  · rename_i a x
    split at h
    · rename_i ds q
      split at h
      · rename_i ys q2
        split at h
        · rename_i hl
          cases eo.ofStr
          obtain ⟨v, rfl, ev⟩ := exs.one rfl
          obtain ⟨p, ws, rfl, h1, h2⟩ := ev.items es q
          rw [D.strs_of q2] at h2
          rw [h2.strs] at h1
          exact ⟨a, p, ys, rfl, rfl, h1, hl, h.now (.str _) es⟩
        · exact h.elim
      · exact h.elim
    · exact h.elim
  · exact h.elim
def splitD : FM := fun o xs st => match o, xs with
  | .str a, [.str b] => if (b.length == 0) = false ∧ a.length + 2 ≤ sizeLine then .ok (.ref st.length) (st ++ [.lst ((Txt.split a b).map .str)]) else .no
  | _, _ => .no
def rSplit : V → List V → Hp → VK → Prop := fun x xs H Q => ∃ a b, x = .str a ∧ xs = [.str b] ∧ (b.length == 0) = false ∧ a.length + 2 ≤ sizeLine ∧ rNewStrs (Txt.split a b) H Q
theorem ms_split : MtSo K G rSplit splitD := by
  intro o xs vo vs ρ st H Q eo exs es h
  unfold splitD at h
  split at h
  · rename_i a b
    split at h
    · rename_i hl
      cases eo.ofStr
      obtain ⟨v, rfl, ev⟩ := exs.one rfl
      cases ev.ofStr
      exact ⟨a, b, rfl, rfl, hl.1, hl.2, newL h evs_strs es⟩
    · exact h.elim
  · exact h.elim
def partD : FM := fun o xs st => match o, xs with
  | .str a, [.str b] => if (b.length == 0) = false ∧ a.length ≤ sizeLine then .ok (.tup [.str (Txt.partition a b).1, .str (Txt.partition a b).2.1, .str (Txt.partition a b).2.2]) st else .no
  | _, _ => .no
def rPart : V → List V → Hp → VK → Prop := fun x xs H Q => ∃ a b, x = .str a ∧ xs = [.str b] ∧ (b.length == 0) = false ∧ a.length ≤ sizeLine ∧ ∀ p, H p = none → Q (.ref p) (upd H p (.tup [.str (Txt.partition a b).1, .str (Txt.partition a b).2.1, .str (Txt.partition a b).2.2]))
theorem ms_part : MtSo K G rPart partD := by
  intro o xs vo vs ρ st H Q eo exs es h
  unfold partD at h
  split at h
  · rename_i a b
    split at h
    · rename_i hl
      cases eo.ofStr
      obtain ⟨v, rfl, ev⟩ := exs.one rfl
      cases ev.ofStr
      exact ⟨a, b, rfl, rfl, hl.1, hl.2, newT h (.cons (.str _) (.cons (.str _) (.cons (.str _) .nil))) es⟩
    · exact h.elim
  · exact h.elim
/-! ### slices -/
abbrev MO := Ev → Sto → R (Option Int)
structure SO (X : Cx) (G : Gx) (e : Option Expr) (t : TO) (m : MO) : Prop where
  pe : PO X e t
  sd : ∀ (σ : L2.St) (env : Ev) (ρ : List Addr) (st : Sto) (H : Hp) (Q : Option Int → Hp → Prop), EVo X.K H ρ env σ → ES X.K G.T H ρ st → Post (fun _ _ a b => a = b) X.K G.T G.C H ρ Q G.E (m env st) → t σ H Q
def oNone : MO := fun _ st => .ok none st
def oSome (a : ME) : MO := fun env st => (a env st).bind fun d st => match d with
  | .int i => .ok (some i) st
  | _ => .no
theorem so_none : SO X G none tNoPart oNone := ⟨po_none, fun σ env ρ st H Q ev es h => h.now rfl es⟩
theorem so_some {e : Expr} {te : TE} {me : ME} (h : SE X G e te me) : SO X G (some e) (tPart te) (oSome me) := ⟨po_some h.pe, fun σ env ρ st H Q ev es q => by
  refine h.sd σ env ρ st H _ ev es (q.bind fun d st1 ρ1 H1 v f1 e1 es1 q1 => ?_)
  cases e1 with
  | int i => exact ⟨i, rfl, q1.now rfl es1⟩
  | _ => exact q1.elim⟩
def cutD (ds : List D) (lo hi : Option Int) : List D := (ds.drop (HT.sIx ds.length 0 lo)).take (HT.sIx ds.length ds.length hi - HT.sIx ds.length 0 lo)
theorem EVs.cut {H : Hp} {ρ : List Addr} {ds : List D} {vs : List V} (h : EVs K H ρ ds vs) (lo hi : Option Int) : EVs K H ρ (cutD ds lo hi) (cutV vs lo hi) := by
  unfold cutD cutV
  rw [← h.length]
  exact (h.drop _).take _
def sliceD (x : D) (lo hi : Option Int) (st : Sto) : R D := match x with
  | .str z => if z.length ≤ sizeLine then .ok (.str (cutS z lo hi)) st else .no
  | .tup ds => .ok (.tup (cutD ds lo hi)) st
  | .kl ds => .ok (.ref st.length) (st ++ [.lst (cutD ds lo hi)])
  | .ref n => match st.seq n with
    | some ds => .ok (.ref st.length) (st ++ [.lst (cutD ds lo hi)])
    | none => .no
  | _ => .no
def rSlice (K : PySem.W.Frag) : V → Option Int → Option Int → Hp → VK → Prop := fun x lo hi H Q => (rSlS x lo hi H Q ∨ rSlA K x lo hi H Q) ∨ rSlL K x lo hi H Q
theorem sl_any : SlR X (rSlice X.K) := (sl_str.or sl_tupA).or sl_list
theorem sl_whole {xs : List V} {lo hi : Option Int} (h : HT.sIx xs.length 0 lo = 0 ∧ HT.sIx xs.length xs.length hi = xs.length) : cutV xs lo hi = xs := by
  unfold cutV
  rw [h.1, h.2, List.drop_zero, Nat.sub_zero, List.take_length]
theorem sd_slice {x : D} {v : V} {lo hi : Option Int} {ρ : List Addr} {st : Sto} {H : Hp} {Q : VK} (e : EV K H ρ x v) (es : ES K G.T H ρ st) (h : PostE K G H ρ Q (sliceD x lo hi st)) : rSlice K v lo hi H Q := by
  cases e with
  | str z =>
    simp only [sliceD] at h
    split at h
    · rename_i hl
      exact .inl (.inl ⟨z, rfl, hl, h.now (.str _) es⟩)
    · exact h.elim
  | @tup a ds vs h1 h2 =>
    refine .inl (.inr ⟨a, vs, rfl, h1, fun z => ?_, fun _ => newT h (h2.cut lo hi) es⟩)
    refine h.now (.tup h1 ?_) es
    have c := h2.cut lo hi
    rw [sl_whole z] at c
    exact c
  | @ref n a hn =>
    simp only [sliceD] at h
    split at h
    · rename_i ds q
      obtain ⟨vs, q1, q2⟩ := es.seq hn (Sto.seq_of q)
      exact .inr ⟨a, vs, rfl, q1, newL h (q2.cut lo hi) es⟩
    · exact h.elim
  | @kl a ds vs h1 h2 => exact .inr ⟨a, vs, rfl, h1.l, newL h (h2.cut lo hi) es⟩
  | _ => exact h.elim
def dSlice (a : ME) (lo hi : MO) : ME := fun env st => (a env st).bind fun x st => (lo env st).bind fun l st => (hi env st).bind fun h st => sliceD x l h st
theorem se_slice {e : Expr} {lo hi : Option Expr} {te : TE} {tl th : TO} {me : ME} {ml mh : MO} {p2 pos : Pos} (he : SE X G e te me) (hl : SO X G lo tl ml) (hh : SO X G hi th mh) : SE X G (.Subscript e (.Slice lo hi none p2) pos) (tSl (rSlice X.K) te tl th) (dSlice me ml mh) := ⟨pe_slice sl_any he.pe hl.pe hh.pe, fun σ env ρ st H Q ev es h => by
  refine he.sd σ env ρ st H _ ev es (h.bind fun x st1 ρ1 H1 v f1 e1 es1 h1 => ?_)
  refine hl.sd σ env ρ1 st1 H1 _ (ev.mono f1) es1 (h1.bind fun l st2 ρ2 H2 l' f2 e2 es2 h2 => ?_)
  subst e2
  refine hh.sd σ env ρ2 st2 H2 _ (ev.mono (f1.trans f2)) es2 (h2.bind fun u st3 ρ3 H3 u' f3 e3 es3 h3 => ?_)
  subst e3
  exact sd_slice (e1.mono (f2.trans f3)) es3 h3⟩
end
end Dn

set_option Elab.async false
set_option linter.all false
set_option maxRecDepth 100000
set_option maxHeartbeats 2000000
/-! A text's defs, constants and classes, as the rules take them. -/
namespace Dn
open PySem PySem.Spec PyProof.Rows L2

/-- a def of the text -/
structure Def (K : PySem.W.Frag) (mg : Str → Option Value) (x : Str) (st : Stmt) (ps : List Str) (f : Addr) (fd : FuncData) : Prop where
  F : Fun K x x st f fd
  g : mg x = some (.ref f)
  b : L2.Binds K fd ps []
/-- a def that makes M of n data -/
def Ok (P : Program) (w : World) (K : PySem.W.Frag) (mg : Str → Option Value) (base : Heap) (T : List (Addr × Str)) (C : Nat → Addr) (x : Str) (ps : List Str) (n : Nat) (M : FN) (k : Nat) : Prop :=
  ∃ (f : Addr) (fd : FuncData), mg x = some (.ref f) ∧ PySem.W.keepIn K (.ref f) = true ∧ L2.Binds K fd ps [] ∧ FnOk P w K mg base (L2N.CX P w) k f fd ps (spM K T C n M)
theorem ok_of {P : Program} {w : World} {K : PySem.W.Frag} {mg : Str → Option Value} {base : Heap} {T : List (Addr × Str)} {C : Nat → Addr} {x : Str} {st : Stmt} {ps : List Str} {f : Addr} {fd : FuncData} {n k : Nat} {M : FN} (D : Def K mg x st ps f fd)
    (h : FnOk P w K mg base (L2N.CX P w) k f fd ps (spM K T C n M)) : Ok P w K mg base T C x ps n M k := ⟨f, fd, D.g, D.F.kp, D.b, h⟩
theorem Ok.mono {P : Program} {w : World} {K : PySem.W.Frag} {mg : Str → Option Value} {base : Heap} {T : List (Addr × Str)} {C : Nat → Addr} {x : Str} {ps : List Str} {n k j : Nat} {M : FN} (h : Ok P w K mg base T C x ps n M k) (hk : k ≤ j) : Ok P w K mg base T C x ps n M j := by
  obtain ⟨f, fd, h1, h2, h3, h4⟩ := h
  exact ⟨f, fd, h1, h2, h3, h4.mono hk⟩
/-- another mirror of the same def -/
theorem Ok.imp {P : Program} {w : World} {K : PySem.W.Frag} {mg : Str → Option Value} {base : Heap} {T : List (Addr × Str)} {C : Nat → Addr} {x : Str} {ps : List Str} {n k : Nat} {M M' : FN} (h : Ok P w K mg base T C x ps n M k) (hM : ∀ xs st, xs.length = n → M' xs st ≠ .no → Tells st (M xs st) (M' xs st)) : Ok P w K mg base T C x ps n M' k := by
  obtain ⟨f, fd, h1, h2, h3, h4⟩ := h
  refine ⟨f, fd, h1, h2, h3, h4.imp fun vs H Q E z => ?_⟩
  obtain ⟨xs, ρ, st, e1, e2, e3, e4⟩ := z
  exact ⟨xs, ρ, st, e1, e2, e3, Post.tells e3 (hM xs st e1 fun q => by rw [q] at e4; exact e4) e4⟩
theorem pass_def {P : Program} {w : World} {K : PySem.W.Frag} {mg : Str → Option Value} {base : Heap} {N : List Str} {q : Str} {sc : Scope} {f : Addr} {cd : Value} {A : Around} {outer : List Env} {s : Shared} {H : Hp} {E : XK} :
    Passes (L2N.CX P w) (cxOf (L2N.CX P w) P w K mg base N q sc f cd A outer s H E) E := L2N.passes_call (X := cxOf (L2N.CX P w) P w K mg base N q sc f cd A outer s H E) (W := fun cls d _ H => E cls d H) (L2N.takes_of rfl rfl rfl rfl) (fun _ _ _ _ h => h)
theorem own_def {P : Program} {w : World} {K : PySem.W.Frag} {mg : Str → Option Value} {base : Heap} {N : List Str} {q : Str} {sc : Scope} {f : Addr} {cd : Value} {A : Around} {outer : List Env} {s : Shared} {H : Hp} {E : XK} :
    PassesOwn (model P w) (cxOf (L2N.CX P w) P w K mg base N q sc f cd A outer s H E).A (cxOf (L2N.CX P w) P w K mg base N q sc f cd A outer s H E).env (cxOf (L2N.CX P w) P w K mg base N q sc f cd A outer s H E).xe := PassesOwn.leaving
theorem pass_blk {X : Cx} : Passes (L2N.CX X.prog X.w) X L2.E0 := fun _ _ _ _ _ _ _ h => by
  obtain ⟨_, _, _, _, _, _, _, _, _, _, _, _, z⟩ := h
  exact z.elim
section
variable {X : Cx} {G : Gx} {e : Expr} {es : List Expr} {tas : TA} {mas : MA} {pos p : Pos}
theorem se_call {x : Str} {k n : Nat} {ps : List Str} {M : FN} (h : Ok X.prog X.w X.K X.mg X.base G.T G.C x ps n M k) (hr : Room k X.A) (hx : Passes (L2N.CX X.prog X.w) X G.E) (ha : SA X G (e :: es) tas mas) (hg : Gl X x := by rfl)
    (hdb : (x == ("__debug__" : Str)) = false := by decide) (he : starEach (e :: es) X.env = (false, eval e X.env) :: starEach es X.env := by rfl) (hpl : (backTo pos (starEach es X.env)).any (·.1) = false := by rfl) :
    SE X G (.Call (.Name x p) (e :: es) [] pos) (L2.tCall (spM X.K G.T G.C n M) [] G.E tas) (dCall (dFn n M) mas) := by
  obtain ⟨f, fd, h1, h2, h3, h4⟩ := h
  exact se_fn h4 hr hg h1 h2 h3 hx ha hdb he hpl
theorem se_call0 {x : Str} {k : Nat} {ps : List Str} {M : FN} (h : Ok X.prog X.w X.K X.mg X.base G.T G.C x ps 0 M k) (hr : Room k X.A) (hx : Passes (L2N.CX X.prog X.w) X G.E) (hg : Gl X x := by rfl)
    (hdb : (x == ("__debug__" : Str)) = false := by decide) : SE X G (.Call (.Name x p) [] [] pos) (L2.tCall (spM X.K G.T G.C 0 M) [] G.E tNil) (dCall (dFn 0 M) aNil) := by
  obtain ⟨f, fd, h1, h2, h3, h4⟩ := h
  exact se_fn0 h4 hr hg h1 h2 h3 hx hdb
/-- a constant of the module: an int -/
def KInt (mg : Str → Option Value) (x : Str) (i : Int) : Prop := ∃ t, mg x = some (.int i t)
theorem se_gint {x : Str} {i : Int} (h : KInt X.mg x i) (hg : Gl X x := by rfl) (hd : (x == ("__debug__" : Str)) = false := by decide) : SE X G (.Name x pos) (tC (.int i)) (dC (.int i)) := by
  obtain ⟨t, ht⟩ := h
  exact se_const (pe_glob hg ht ⟨t, rfl⟩ hd) fun _ _ => .int i
/-- .. a tuple -/
def KTup (K : PySem.W.Frag) (mg : Str → Option Value) (x : Str) (d : D) : Prop := ∃ a, mg x = some (.ref a) ∧ ∀ H ρ, EV K H ρ d (.ref a)
theorem se_gtup {x : Str} {d : D} (h : KTup X.K X.mg x d) {a : Addr} (ha : X.mg x = some (.ref a)) (hg : Gl X x := by rfl) (hd : (x == ("__debug__" : Str)) = false := by decide) : SE X G (.Name x pos) (tC (.ref a)) (dC d) := by
  obtain ⟨b, hb, hv⟩ := h
  have e : a = b := by rw [ha] at hb; cases hb; rfl
  subst e
  exact se_const (pe_glob hg ha rfl hd) hv
/-- a built-in class, as a value -/
theorem se_bty {x : Str} {n : String} (hm : X.mg x = none) (hv : bootBuiltins x = some (.type n) := by decide +kernel) (hg : Gl X x := by rfl) (hn : x ≠ "__name__" := by decide) (hd : (x == ("__debug__" : Str)) = false := by decide) : SE X G (.Name x pos) (tC (.ty n)) (dC (.ty n)) := se_const (pe_bltn hg hm hv rfl hn hd) fun _ _ => .ty n
/-- an own class of exceptions -/
structure Exc (K : PySem.W.Frag) (mg : Str → Option Value) (x : Str) (c : Addr) : Prop where
  g : mg x = some (.ref c)
  ex : PySem.W.excIn K c [.type "ValueError", .type "Exception", .type "BaseException", .type "object"] "ValueError.__new__" = true
  kp : PySem.W.keepIn K (.ref c) = true
  sub : PySem.W.subIn K (.ref c) (.type "BaseException") = some true
  ty : PySem.W.typeIn K (.ref c) = some (.type "type")
theorem ss_raiseX {x m : Str} {n : Nat} {j : Nat} {p2 p3 : Pos} {W : WX} (h : Exc X.K X.mg x (G.C n)) (hc : X.calm = true) (tk : L2N.Takes X W) (hW : ∀ cls d σ H, G.E cls d H → W cls d σ H) (hg : Gl X x := by rfl) (hdb : (x == ("__debug__" : Str)) = false := by decide) :
    SS X G (.Raise (some (.Call (.Name x p) [.Constant (.str m) j p2] [] p3)) none pos) (fun _ σ H => W (.ref (G.C n)) none σ H) (sRaise n) := ss_raise n hc tk hW (L2N.pmk_own PySem.F.excBase_ValueError h.ex h.g h.kp (raises_own h.sub h.ty) hg hdb)
end
end Dn

set_option Elab.async false
set_option linter.all false
set_option maxRecDepth 100000
set_option maxHeartbeats 4000000
/-! While an exception is handled: a list walked to its end, a comprehension of whole numbers, a sum. -/
namespace Hh
open PySem PySem.Spec PyProof.Rows L2 HotX
section
variable {prog : Program} {w : World} {A : Around} {E : Value → Shared → Prop} {s : Shared}
/-- the end of a walked list -/
theorem listEnd {it l x1 : Addr} {i : Nat} {items : Array Value} {Q : Option Value → Shared → Prop} (hot : HotAt A x1 s.heap) (hne : x1 ≠ it) (hit : s.heap.IsListIter it l i) (hl : s.heap.IsList l items) (hx : items[i]? = none)
    (hQ : ∀ h', Heap.ExtBut it s.heap h' → Q none { s with heap := h' }) : wpAny (model prog w) A (pyNext (.ref it)) Q E s := by
  obtain ⟨oI, hoI, hcI, hdI⟩ := id hit
  obtain ⟨oL, hoL, _, nL, hdL⟩ := id hl
  obtain ⟨hh, o1, vs1, h1, d1, c1⟩ := hot
  unfold pyNext
  apply wpAny_bind; apply wpAny_attempt
  apply wpAny_callSpecial?_slot (name := Str.ofString "__next__") hit.typeIs slot_listiter_next
  refine wpAny_call_entry slot_listiter_next hit.typeIs entry_listiter_next ?_ (args_listiter_next _)
  show wpAny _ _ (field (.ref it) 0 >>= _) _ _ s
  apply wpAny_bind; apply wpAny_field hoI hdI (x := .ref l) rfl
  show wpAny _ _ (if (Value.ref l == Value.none) = true then _ else _) _ _ s
  rw [if_neg (by exact Bool.false_ne_true)]
  show wpAny _ _ (field (.ref it) 1 >>= _) _ _ s
  apply wpAny_bind; apply wpAny_field hoI hdI (x := .int i 0) rfl
  show wpAny _ _ (seqItems? (.ref l) >>= _) _ _ s
  apply wpAny_bind; apply wpAny_seqItems hoL hdL
  simp only [Int.toNat_natCast, hx]
  apply wpAny_bind; apply wpAny_rule; apply wpAny_bind; apply wpAny_setField hoI hdI (by simp)
  show wpAny _ _ (newExc (.type "StopIteration") [] >>= _) _ _ _
  apply wpAny_bind
  simp only [newExc, newTuple]
  apply wpAny_bind; refine wpAny_newObj_type ?_ (by size_fits)
  apply wpAny_bind (m := firstArgMember _ _)
  refine wpAny_of_eq (a := Value.none) (by first | rfl | (simp only [firstArgMember]; rfl)) ?_
  refine wpAny_newObj_type ?_ (by size_fits)
  have u1 : (s.heap.update it (Obj.mapFields (·.setIfInBounds 0 .none))).get? x1 = some o1 := by rw [Heap.get?_update_other _ _ (Ne.symm hne)]; exact h1
  refine raiseNew_hot ⟨hh, o1, vs1, Heap.get?_push_of_some _ (Heap.get?_push_of_some _ u1), d1, c1⟩ (Nat.ne_of_lt (Heap.lt_size (Heap.get?_push_of_some _ u1))) (Heap.get?_push_size _ rfl) rfl
    (by first | (simp; done) | (simp; omega) | (simp only [Array.size_append]; simp; omega)) ?_
  refine wpAny_bind (wpAny_isInstance (T := "StopIteration") (b := true) ⟨_, Heap.get?_update_self _ (Heap.get?_push_size _ rfl) rfl, rfl⟩ isSubtype_stop ?_)
  refine wpAny_pure (hQ _ fun b o hb e => ?_)
  have z : (((s.heap.update it (Obj.mapFields (·.setIfInBounds 0 .none))).push { cls := .type "tuple", data := .seq #[] }).get? b) = some o := Heap.get?_push_of_some _ (by rw [Heap.get?_update_other _ _ (Ne.symm hb)]; exact e)
  rw [Heap.get?_update_other _ _ (Nat.ne_of_gt (Heap.lt_size z))]
  exact Heap.get?_push_of_some _ z
theorem hot_keep {x1 : Addr} {h h' : Heap} (hot : HotAt A x1 h) (k : ∀ o, h.get? x1 = some o → h'.get? x1 = some o) : HotAt A x1 h' := by
  obtain ⟨hh, o1, vs1, h1, d1, c1⟩ := hot
  exact ⟨hh, o1, vs1, k _ h1, d1, c1⟩
theorem walksL {x1 : Addr} (I ax : Addr) (hne : ax ≠ I) (hx : x1 ≠ I) (items : Array Value) :
    Walks prog w A I [I, ax, x1] [I] items.size (fun i v => items[i]? = some v) (fun i h => (h.IsListIter I ax i ∧ h.IsList ax items) ∧ HotAt A x1 h) where
  sub := fun b hb => by
    rw [List.mem_singleton.mp hb]
    exact List.mem_cons_self
  frame := fun i h h' st hk => ⟨⟨st.1.1.at fun o e => hk I (by simp) o e, st.1.2.at fun o e => hk ax (by simp) o e⟩, hot_keep st.2 fun o e => hk x1 (by simp) o e⟩
  item := fun i s Q E hi st hQ => by
    refine wpAny_pyNext_list_item st.1.1 st.1.2 (x := items[i]) (by simp [hi]) fun h' hit' hs' => ?_
    refine hQ _ h' s.toks (by simp [hi]) ⟨⟨hit', st.1.2.extBut hs'.extBut hne⟩, hot_keep st.2 fun o e => hs'.extBut x1 o hx e⟩ fun b o hb e => ?_
    exact hs'.extBut b o (fun z => hb (by simp [z])) e
  done := fun s Q E st hQ => listEnd st.2 hx st.1.1 st.1.2 (by simp) fun h' he' => hQ h' s.toks fun b o hb e => he' b o (fun z => hb (by simp [z])) e
  self := fun _ _ _ _ st hQ => wpAny_pyIter_listiter st.1.1 hQ
end
/-! ### a context that bears the handled exception -/
section
variable {X : Cx} {pins : List (Addr × Obj)} {σ : L2.St} {H : Hp} {s : Shared} {G : Dn.Gx}
/-- the context bears the exception at a, of the object oe, which is handled -/
structure Bears (X : Cx) (a : Addr) (oe : Obj) : Prop where
  pin : (a, oe) ∈ X.pn
  hd : X.A.handled = some (.ref a)
  fl : ∃ vs : Array Value, oe.data = .fields vs ∧ vs[2]? = some .none
variable {a : Addr} {oe : Obj}
theorem Bears.at (B : Bears X a oe) (I : Inv X pins σ H s) : s.heap.get? a = some oe ∧ H a = none ∧ HotAt X.A a s.heap := by
  obtain ⟨h1, h2, _⟩ := I.pin (a, oe) (List.mem_append_left _ B.pin)
  obtain ⟨vs, f1, f2⟩ := B.fl
  exact ⟨h1, h2, B.hd, oe, vs, h1, f1, f2⟩
/-- a list's walk begun there -/
theorem iterL {p : Addr} {vs : List V} {its : List Value} {Q : Value → Shared → Prop} {E : Value → Shared → Prop} (A : Around) (hA : A.handled = some (.ref a)) (B : Bears X a oe) (I : Inv X pins σ H s) (hl : s.heap.IsList p its.toArray)
    (h : ∀ s₂ : Shared, s₂ = { s with heap := s.heap.push { cls := .type "list_iterator", data := .fields #[.ref p, rawInt 0] } } → Walks X.prog X.w A s.heap.objs.size [s.heap.objs.size, p, a] [s.heap.objs.size] its.toArray.size (fun i v => its.toArray[i]? = some v) (fun i h => (h.IsListIter s.heap.objs.size p i ∧ h.IsList p its.toArray) ∧ HotAt A a h) →
      ((s₂.heap.IsListIter s.heap.objs.size p 0 ∧ s₂.heap.IsList p its.toArray) ∧ HotAt A a s₂.heap) → (∀ b ∈ [s.heap.objs.size, p, a], b < s₂.heap.objs.size) → Q (.ref s.heap.objs.size) s₂) : wpAny (model X.prog X.w) A (pyIter (.ref p)) Q E s := by
  obtain ⟨ga, na, hot⟩ := B.at I
  have lp : p < s.heap.objs.size := by
    obtain ⟨_, e, _⟩ := id hl
    exact Heap.lt_size e
  have la : a < s.heap.objs.size := Heap.lt_size ga
  have hot' : HotAt A a s.heap := ⟨hA, hot.2⟩
  refine wpAny_pyIter_list hl (h _ rfl (walksL _ _ (Nat.ne_of_lt lp) (Nat.ne_of_lt la) _) ⟨⟨⟨_, Heap.get?_push_size _ rfl, rfl, rfl⟩, hl.push _⟩, hot_keep hot' fun o e => Heap.get?_push_of_some _ e⟩ fun b hb => ?_)
  show b < (s.heap.push _).objs.size
  rw [Heap.size_push]
  simp only [List.mem_cons, List.not_mem_nil, or_false] at hb
  rcases hb with e | e | e
  · rw [e]
    exact Nat.lt_succ_self _
  · rw [e]
    exact Nat.lt_succ_of_lt lp
  · rw [e]
    exact Nat.lt_succ_of_lt la
/-- sum of a list of whole numbers -/
theorem call_sumH (B : Bears X a oe) : CallR X (.builtin "sum") (rSum X.K) := by
  intro pins s σ H vs us Q I r h
  obtain ⟨p, ns, rfl, hs, q⟩ := h
  obtain ⟨its, rv, pl, hz⟩ := I.list hs
  have e1 := Vals.ref1 r
  subst e1
  have hi : IntsAre its ns := Vals.ints rv
  obtain ⟨xs, ex⟩ := hi.allInts.items
  have hn : numsOf (intItems xs).toList = ns := by rw [← ex]; exact hi.numsOf
  rw [nums_intItems] at hn
  refine call_sum_walkG (iterL (vs := ns.map V.int) X.A.in1 B.hd B I pl.isList fun s₂ e W st hf => ?_)
  subst e
  refine ⟨_, _, _, _, _, _, numAt xs, rfl, W, st, hf, fun i v hv => intItems_at (by rw [← ex]; exact hv), fun h' tk t' hk => ?_⟩
  have kp : ∀ b o, s.heap.get? b = some o → h'.get? b = some o := fun b o e => hk b o (fun z => by
    rw [List.mem_singleton.mp z] at e
    exact Nat.lt_irrefl _ (Heap.lt_size e)) (Heap.get?_push_of_some _ e)
  refine ⟨.int ns.sum, H, I.kept (t' := tk) kp, ⟨t', ?_⟩, q⟩
  have e2 : its.toArray.size = xs.size := by rw [ex]; simp [intItems]
  rw [e2, preSum_eq, List.take_of_length_le (by simp), hn]
/-- an object laid where nothing stood -/
theorem laidAt {D : Addr} {o : HO} {h' : Heap} {t' : Nat} (I : Inv X pins σ H s) (k : ∀ b u, s.heap.get? b = some u → h'.get? b = some u) (hn : s.heap.get? D = none) (new : ObjOk X.prog X.w (upd H D o) h' D o) :
    Inv X pins σ (upd H D o) { s with heap := h', toks := t' } := by
  have nD : H D = none := I.hok.gone hn
  have ne : ∀ b u, s.heap.get? b = some u → b ≠ D := fun b u e z => by rw [z, hn] at e; cases e
  refine I.un ⟨fun b u q _ _ _ => k b u q, fun b u q _ _ _ => ⟨u.slots, k b u q⟩, fun b u q n _ => by rw [upd_ne (ne b u q)]; exact n, fun b u q _ => ⟨u, k b u q⟩, fun b xs q => by rw [upd_ne (ne_of_none q nD)]; exact q,
    fun b u xs q => by rw [upd_ne (ne_of_none q nD)]; exact q, fun b ps q => ⟨#[], by rw [upd_ne (ne_of_none q nD), q]; simp⟩⟩ fun b u q => ?_
  by_cases hb : b = D
  · subst hb
    rw [upd_same] at q
    cases q
    exact new
  · rw [upd_ne hb] at q
    exact (I.hok b u q).stay (fun c v _ z => k c v z) (fun c z => by rw [upd_ne (ne_of_none z nD)]; exact z) fun c xs z => by rw [upd_ne (ne_of_none z nD)]; exact z
def b2n (b : Bool) : Int := if b then 1 else 0
/-- [int(x) for x in l], l a list of truth values -/
theorem pe_ints {l : Expr} {x : Str} {px p1 p2 p3 pos : Pos} {scope : Scope} {tl : TE} (B : Bears X a oe) (hl : PE X l tl) (hm : X.mg "int" = none) (hfree : ∀ y ∈ scope.names, y.2 ≠ .free) (hcell : ∀ y ∈ scope.names, y.2 ≠ .cell) (hkind : scope.kind = .function)
    (hnames : ∀ y ∈ scope.names, y.2 = .local → scope.names.lookup y.1 = some .local) (hx : scope.names.lookup x = some .local) (hi : scope.names.lookup ("int" : Str) = some .globalImplicit) (hs : ∀ y, foldedSetIterable l X.env y = pure y := by intro _; rfl) (hd : (x == ("__debug__" : Str)) = false := by decide) :
    PE X (.ListComp (.Call (.Name "int" p1) [.Name x p2] [] p3) [⟨.Name x px, l, [], 0⟩] scope pos) (fun σ H Q => tl σ H fun v H1 => ∃ (p : Addr) (bs : List Bool), v = .ref p ∧ SqL X.K H1 p (bs.map V.bl) ∧ ∀ D, H1 D = none → Q (.ref D) (upd H1 D (.lst (bs.map fun b => V.int (b2n b))))) := by
  constructor
  intro pins s σ H Q I h
  refine wpAny_ListComp_walk (fun _ => true) (fun v y => ∃ b t, v = .bool b ∧ y = .int (b2n b) t) hfree hcell hkind hnames hx (thn (hl.run pins s σ H _ I h) ?_) hs
  intro v s1 hv
  obtain ⟨y, H1, I1, r1, p, bs, e, hq, q⟩ := hv
  subst e
  cases r1
  obtain ⟨its, rv, pl, hz⟩ := I1.list hq
  have eb : its = bs.map Value.bool := Vals.bls rv
  refine iterL (vs := bs.map V.bl) X.A B.hd B I1 pl.isList fun s₂ e W st hf => ?_
  subst e
  have szz : its.toArray.size ≤ sizeLine := by
    rw [List.size_toArray, ← rv.length]
    exact hz
  refine ⟨_, _, _, _, _, _, rfl, W, szz, st, hf, ⟨fun C i v s₃ m₃ E' hv hn hm' hk ht => wpAny_tests_nil ⟨rfl, s₃.heap, s₃.toks, rfl, fun _ _ z => z⟩, fun C i v s₃ m₃ E' hv _ hn hm' hk ht => ?_⟩, fun D h' tk ys vs hD hyl hyp hlen hP hF hk => ?_⟩
  · obtain ⟨b, rfl⟩ : ∃ b, v = Value.bool b := by
      rw [eb] at hv
      simp only [List.getElem?_toArray, List.getElem?_map] at hv
      cases eq : bs[i]? with
      | none => rw [eq] at hv; cases hv
      | some b => rw [eq] at hv; cases hv; exact ⟨b, rfl⟩
    have nw : ∀ z o, X.base.get? z = some o → s₃.heap.get? z = some o := fun z o ez => hk z o (fun hz' => by
      have := Heap.lt_size (I1.bk z o ez)
      rw [List.mem_singleton.mp hz'] at this
      exact Nat.lt_irrefl _ this) (Heap.get?_push_of_some _ (I1.bk z o ez))
    obtain ⟨mb, b1, b2⟩ := I1.mod.blt
    refine wpAny_Call_Name_kw (Calls.Name_function_global hkind hi (Calls.loadGlobal_builtin ?_ hm ?_ ((b2 "int" (by decide)).trans (show bootBuiltins "int" = some (.type "int") from by decide +kernel)) ?_))
    · show s₃.heap.Ns X.env.globals X.mg
      rw [I1.ok.glob]
      exact I1.mod.glob.keeps nw
    · show s₃.heap.Ns X.env.builtins mb
      rw [I1.ok.blt]
      exact b1.keeps nw
    · refine PyProof.Rows.callWith_type1 (Calls.spliced_cons (wpAny_Name (wpAny_loadName_local hkind hx hn hm' (Calls.spliced_nil (call_int_bool ?_))) hd)) rfl rfl
      exact ⟨⟨b, _, rfl, rfl⟩, s₃.heap, _, rfl, fun _ _ z => z⟩
  · have ev : vs = its := by
      apply List.ext_getElem?
      intro j
      cases ej : vs[j]? with
      | some v =>
        have z := hP j v ej
        simp only [List.getElem?_toArray] at z
        exact z.symm
      | none =>
        have z := List.getElem?_eq_none_iff.mp ej
        rw [hlen, List.size_toArray] at z
        exact (List.getElem?_eq_none_iff.mpr z).symm
    have kp : ∀ b o, s1.heap.get? b = some o → h'.get? b = some o := fun b o e => hk b o (fun z => by
      rw [List.mem_singleton.mp z] at e
      exact Nat.lt_irrefl _ (Heap.lt_size e)) (Heap.get?_push_of_some _ e)
    have hD1 : s1.heap.get? D = none := by
      cases eD : s1.heap.get? D with
      | none => rfl
      | some o =>
        have z := Heap.get?_push_of_some { cls := .type "list_iterator", data := .fields #[.ref p, rawInt 0] } eD
        have z2 : (s1.heap.push { cls := .type "list_iterator", data := .fields #[.ref p, rawInt 0] }).get? D = none := hD
        rw [z2] at z
        cases z
    have nD : H1 D = none := I1.hok.gone hD1
    have vals : Vals (bs.map fun b => V.int (b2n b)) ys.toList := by
      have gen : ∀ (cs : List Bool) (zs : List Value), Paired (fun v y => ∃ b t, v = Value.bool b ∧ y = Value.int (b2n b) t) (cs.map Value.bool) zs → Vals (cs.map fun b => V.int (b2n b)) zs := by
        intro cs
        induction cs with
        | nil => intro zs hp; cases hp; exact .nil
        | cons c cs ih =>
          intro zs hp
          cases hp with
          | cons h1 h2 =>
            obtain ⟨b, t, e1, e2⟩ := h1
            cases e1
            exact .cons ⟨t, e2⟩ (ih _ h2)
      refine gen bs _ ?_
      have hf2 : (vs.filter fun _ => true) = vs := by simp
      rw [hf2, ev, eb] at hF
      exact hF
    have lz : (bs.map fun b => V.int (b2n b)).length ≤ sizeLine := by
      rw [List.length_map]
      rw [List.length_map] at hz
      exact hz
    obtain ⟨nn, hy⟩ := hyp
    have J : Inv X pins σ (upd H1 D (.lst (bs.map fun b => V.int (b2n b)))) { s1 with heap := h', toks := tk } := laidAt (t' := tk) I1 kp hD1 ⟨lz, ys.toList, nn, vals, by simpa using hy⟩
    exact ⟨.ref D, _, J, rfl, q D nD⟩
end
end Hh

set_option Elab.async false
set_option linter.all false
set_option maxRecDepth 100000
set_option maxHeartbeats 4000000
/-! A deed told: a lambda handed to a def that catches, what the caught exception is told as. -/
namespace Dt
open PySem PySem.Spec PyProof.Rows L2 Dn Hh

/-! ### operations where an exception is handled -/
section
variable {X : Cx} {G : Gx} {a : Addr} {oe : Obj}
/-- isinstance of the handled exception -/
theorem call_isB {Dc : Addr} (C : ExcC X.K Dc) (hz : Zc (.ref Dc) none oe) (B : Bears X a oe) : CallR X (.builtin "isinstance") (rIsE X.K Dc a) := by
  intro pins s σ H xs us Q I rel want
  obtain ⟨c, cv, b, rfl, hcv, one, q⟩ := want
  obtain ⟨u1, u2, rfl, rx, rt⟩ := vals2 rel
  cases rx
  have ec := hcv _ rt
  subst ec
  obtain ⟨hget, _, _⟩ := B.at I
  obtain ⟨vs, hv, _⟩ := B.fl
  have J : PySem.W.InstAt s.heap a oe Dc none := by
    cases oe with
    | mk oc od oda osl =>
      obtain ⟨h1, h2⟩ := hz
      dsimp only at h1 h2 hv
      subst h1 h2 hv
      exact ⟨hget, rfl, rfl, trivial⟩
  exact PySem.W.kia_one (PySem.W.handS_kitx_exc C.hg C.hk C.hs C.hd C.ha C.hn C.ht C.hm) I.kIn J one (fun z => nomatch z) fun tk => ⟨.bl b, H, I.kept (t' := tk) fun _ _ z => z, rfl, q⟩
def isED (K : PySem.W.Frag) (Dc a : Addr) : FN := fun xs st => match xs with
  | [.ob x, c] => if x = a then match (match c with
      | .ob c => PySem.W.kitOne K (.ref Dc) (.ref c)
      | .ty n => PySem.W.kitOne K (.ref Dc) (.type n)
      | _ => none) with
    | some b => .ok (.bl b) st
    | none => .no
    else .no
  | _ => .no
theorem cs_isE {K : PySem.W.Frag} {Dc : Addr} : CallS K G (rIsE K Dc a) (isED K Dc a) := by
  intro xs vs ρ st H Q e es h
  unfold isED at h
  split at h
  · rename_i x c
    split at h
    · rename_i hx
      subst hx
      cases e with
      | cons e1 r1 =>
        cases r1 with
        | cons e2 r2 =>
          cases r2
          cases e1
          split at h
          · rename_i b hb
            cases e2 with
            | ob c => exact ⟨_, .ref c, b, rfl, fun u r => r, hb, h.now (.bl b) es⟩
            | ty n => exact ⟨_, .type n, b, rfl, fun u r => r, hb, h.now (.bl b) es⟩
            | _ => cases hb
          · exact h.elim
    · exact h.elim
  · exact h.elim
/-- a class of the text, as a value -/
theorem se_cls {x : Str} {c : Addr} {pos : Pos} (hm : X.mg x = some (.ref c)) (hg : Gl X x := by rfl) (hd : (x == ("__debug__" : Str)) = false := by decide) : SE X G (.Name x pos) (tC (.ref c)) (dC (.ob c)) := se_const (pe_glob hg hm rfl hd) fun _ _ => .ob c
/-- [int(x) for x in l] -/
def blsOf (st : Sto) : D → Option (List Bool)
  | .ref n => match st.seq n with
    | some ds => D.bls ds
    | none => none
  | _ => none
def dInts (ml : ME) : ME := fun env st => (ml env st).bind fun d st => match blsOf st d with
  | some bs => if bs.length ≤ 100000 then .ok (.ref st.length) (st ++ [.lst (bs.map fun b => D.int (b2n b))]) else .no
  | none => .no
theorem evs_ints {K : PySem.W.Frag} {H : Hp} {ρ : List Addr} : ∀ bs : List Bool, EVs K H ρ (bs.map fun b => D.int (b2n b)) (bs.map fun b => V.int (b2n b))
  | [] => .nil
  | b :: bs => .cons (.int _) (evs_ints bs)
theorem evs_bls {K : PySem.W.Frag} {H : Hp} {ρ : List Addr} : ∀ {bs : List Bool} {vs : List V}, EVs K H ρ (bs.map D.bl) vs → vs = bs.map V.bl
  | [], _, h => by cases h; rfl
  | b :: bs, _, h => by
    cases h with
    | cons h r =>
      cases h
      rw [evs_bls r]
      rfl
theorem se_ints {l : Expr} {x : Str} {px p1 p2 p3 pos : Pos} {scope : Scope} {tl : TE} {ml : ME} (B : Bears X a oe) (hl : SE X G l tl ml) (hm : X.mg "int" = none) (hfree : ∀ y ∈ scope.names, y.2 ≠ .free) (hcell : ∀ y ∈ scope.names, y.2 ≠ .cell)
    (hnames : ∀ y ∈ scope.names, y.2 = .local → scope.names.lookup y.1 = some .local) (hkind : scope.kind = .function := by rfl) (hx : scope.names.lookup x = some .local := by rfl) (hi : scope.names.lookup ("int" : Str) = some .globalImplicit := by rfl) (hs : ∀ y, foldedSetIterable l X.env y = pure y := by intro _; rfl) (hd : (x == ("__debug__" : Str)) = false := by decide) :
    SE X G (.ListComp (.Call (.Name "int" p1) [.Name x p2] [] p3) [⟨.Name x px, l, [], 0⟩] scope pos) (fun σ H Q => tl σ H fun v H1 => ∃ (p : Addr) (bs : List Bool), v = .ref p ∧ SqL X.K H1 p (bs.map V.bl) ∧ ∀ D, H1 D = none → Q (.ref D) (upd H1 D (.lst (bs.map fun b => V.int (b2n b))))) (dInts ml) :=
  ⟨pe_ints B hl.pe hm hfree hcell hkind hnames hx hi hs hd, fun σ env ρ st H Q ev es h => by
    refine hl.sd σ env ρ st H _ ev es (h.bind fun d st1 ρ1 H1 v f1 e1 es1 h1 => ?_)
    split at h1
    · rename_i bs q
      split at h1
      · rename_i hz
        unfold blsOf at q
        split at q
        · rename_i n
          split at q
          · rename_i ds q2
            obtain ⟨p, rfl, hn⟩ := e1.ofRef
            obtain ⟨ws, q3, q4⟩ := es1.seq hn (Sto.seq_of q2)
            rw [D.bls_of q] at q4
            have e2 := evs_bls q4
            subst e2
            refine ⟨p, bs, rfl, q3, fun Dl hD => ?_⟩
            exact h1 (ρ1 ++ [Dl]) _ _ (Fr.laidS hD) (.ref (es1.ref Dl)) (es1.lay hD (evs_ints bs))
          · cases q
        · cases q
      · exact h1.elim
    · exact h1.elim⟩
end
/-! ### list.index -/
section
variable {K : PySem.W.Frag} {G : Gx}
def ixOf (y : D) : List D → Option Nat
  | [] => none
  | z :: zs => if eqF z y = true then some 0 else (ixOf y zs).map (· + 1)
def indexD : FM := fun o xs st => match xs with
  | [y] => match lstOf st [o] with
    | some ds => if y.flat = true ∧ ds.all D.flat = true then match ixOf y ds with
      | some j => .ok (.int (j : Int)) st
      | none => .no
      else .no
    | none => .no
  | _ => .no
theorem ixOf_at {H : Hp} {ρ : List Addr} {y : D} {vy : V} (ey : EV K H ρ y vy) (fy : y.flat = true) : ∀ {ds : List D} {vs : List V} {j : Nat}, EVs K H ρ ds vs → ds.all D.flat = true → ixOf y ds = some j →
    (∃ z, vs[j]? = some z ∧ eqV z vy = true) ∧ ∀ (m : Nat) (z : V), m < j → vs[m]? = some z → eqV z vy = false
  | _, _, _, .nil, _, e => by cases e
  | _, _, j, @EVs.cons _ _ _ d v ds vs h r, fd, e => by
    rw [List.all_cons, Bool.and_eq_true] at fd
    have e0 := eqF_of h ey fd.1 fy
    unfold ixOf at e
    by_cases hz : eqF d y = true
    · rw [if_pos hz] at e
      cases e
      exact ⟨⟨v, rfl, by rw [e0]; exact hz⟩, fun m z hm => absurd hm (Nat.not_lt_zero m)⟩
    · rw [if_neg hz] at e
      cases q : ixOf y ds with
      | none => rw [q] at e; cases e
      | some k =>
        rw [q] at e
        have ej : j = k + 1 := (Option.some.inj e).symm
        subst ej
        obtain ⟨⟨z, h1, h2⟩, h3⟩ := ixOf_at ey fy r fd.2 q
        refine ⟨⟨z, by simpa using h1, h2⟩, fun m z hm hg => ?_⟩
        cases m with
        | zero =>
          have ez : z = v := by simpa using hg.symm
          rw [ez, e0]
          exact Bool.eq_false_iff.mpr hz
        | succ m => exact h3 m z (Nat.lt_of_succ_lt_succ hm) (by simpa using hg)
theorem ms_index : MtSo K G (rIndex K) indexD := by
  intro o xs vo vs ρ st H Q eo exs es h
  unfold indexD at h
  split at h
  · rename_i y
    split at h
    · rename_i ds q
      split at h
      · rename_i hf
        split at h
        · rename_i j hj
          obtain ⟨a, ws, e1, h1, h2⟩ := (EVs.cons eo .nil).lst es q
          cases e1
          obtain ⟨v, rfl, ev⟩ := exs.one rfl
          obtain ⟨⟨z, g1, g2⟩, g3⟩ := ixOf_at ev hf.1 h2 hf.2 hj
          exact ⟨a, ws, v, j, z, rfl, rfl, h1, flat_of ev hf.1, flats_of h2 hf.2, g1, g2, g3, h.now (.int _) es⟩
        · exact h.elim
      · exact h.elim
    · exact h.elim
  · exact h.elim
end
/-! ### a def called there -/
section
variable {X : Cx} {pins : List (Addr × Obj)} {σ : L2.St} {H : Hp} {s : Shared}
theorem _root_.Hh.Bears.hot {a : Addr} {oe : Obj} (B : Bears X a oe) : L2H.Hot1 X.A (a, oe) := ⟨B.hd, B.fl⟩
theorem run_hot {a : Addr} {oe : Obj} {k : Nat} {f : Addr} {name qual : Str} {params : Arguments} {body : List Stmt} {scope : Scope} {dV kV doc pm cdv ct oc : Value} {an od : Option Addr} {osl : Array (Option Value)} {N ps : List Str} {us : List Value} {vs : List V} {Q : VK} {E : XK}
    (B : Bears X a oe) (lk : X.K.lookup f = some ⟨oc, od, .func (PySem.W.fnOf name qual params body scope dV kV doc pm an cdv ct), osl⟩) (hcd : PySem.W.codeIn X.K cdv qual = true) (S : FnScope N ps scope) (hr : L2H.RoomH (k + 1) X.A)
    (hb : L2.Binds X.K (PySem.W.fnOf name qual params body scope dV kV doc pm an cdv ct) ps []) (hx : PassesAt (L2N.CX X.prog X.w) X σ E) (I : Inv X pins σ H s) (r : Vals vs us) (hl : vs.length = ps.length)
    (hbody : L2H.RoomH k (X.A.deeper (envOfC qual scope s.heap.objs.size f cdv)) →
      ∃ t, PSs (L2H.cxH (L2N.CX X.prog X.w) X.prog X.w X.K X.mg X.base N qual scope f cdv X.A X.stack s H E (a, oe)) body t ∧ t { nx := fun _ H' => Q .non H', rt := Q } (L2.start N vs) H) :
    wpAny (model X.prog X.w) X.A (call (.ref f) us) (EP X pins σ Q) X.xe s := by
  have e0 := I.env0
  have hlu : us.length = ps.length := by rw [← r.length]; exact hl
  have b := hb s us I.kIn (by rw [List.append_nil]; exact hlu)
  rw [List.append_nil] at b
  have P1 := I.pin (a, oe) (List.mem_append_left _ B.pin)
  have hpin : L2H.PinOk X.stack H s (a, oe) := ⟨P1.1, P1.2.1, fun hm => (List.mem_cons.mp (I.stkSub a hm)).elim P1.2.2.1 P1.2.2.2.1, P1.2.2.2.2⟩
  have lim : s.heap.NoLimit := e0.mod.nolimit.keeps fun b o e => (e0.bs b o e).1
  have hkind : ∀ y ∈ ps.zip us, scope.names.lookup y.1 = some .local ∨ (scope.names.lookup y.1 = some .cell ∧ ((cellsFrom (s.heap.objs.size + 1) scope.names []).lookup y.1).isSome = true) := by
    rintro ⟨n, v⟩ hy
    rcases S.par n (List.of_mem_zip hy).1 with q | q
    · exact .inl q
    · exact .inr ⟨q, PySem.W.cellsFrom_some _ _ _ (.inl q)⟩
  have rc : codeAny (model X.prog X.w) X.A (.call (.ref f) ⟨us, []⟩) (CR (L2N.CX X.prog X.w) X.stack X.prog X.w H s Q E) s := by
    refine codeAny_call_function hr.depth (I.kIn _ _ lk) rfl S.co S.gen rfl (PySem.W.codeRec_of I.kIn hcd) (b _ _ _ _ ?_)
    refine wpAny_newFunctionEnv_cells S.kind hkind fun env he s1 x => ?_
    subst he
    refine ⟨lim.keeps x.toInCall.keep, codeAny_func ?_⟩
    obtain ⟨t, ht, hq⟩ := hbody (hr.deeper _)
    have J := L2H.inv_startH (CX := L2N.CX X.prog X.w) (E := E) S hpin e0 hl r x
    refine wpAny_mono (ht.run [] s1 (L2.start N vs) H _ J hq) (fun fl s' hs => ?_) fun e s' hs => hs
    cases fl with
    | ret u =>
      obtain ⟨v, σ', H', J', rv, q⟩ := hs
      exact ⟨v, H', J'.os, J'.bare, J'.base, J'.hok, rv, q⟩
    | next =>
      obtain ⟨σ', H', J', q⟩ := hs
      exact ⟨V.non, H', J'.os, J'.bare, J'.base, J'.hok, rfl, q⟩
    | brk =>
      obtain ⟨_, _, _, q⟩ := hs
      exact False.elim q
    | cont =>
      obtain ⟨_, _, _, q⟩ := hs
      exact False.elim q
  refine wpAny_call (codeAny_mono rc fun r s' hq => ?_)
  cases r with
  | error e => exact hx pins H s e s' I hq
  | ok fl =>
    cases fl with
    | ret u => exact I.after hq
    | next => exact False.elim hq
    | brk => exact False.elim hq
    | cont => exact False.elim hq
end

/-! ### the told error -/
/-- what the n-th class is told as -/
def errD (z : Str) : D := .tup [.str "error", .str z]
/-- a def that tells the handled exception by its kind -/
def TermOk (P : Program) (w : World) (K : PySem.W.Frag) (mg : Str → Option Value) (base : Heap) (T : List (Addr × Str)) (C : Nat → Addr) (y ya : Str) (kd : Nat → Option Str) (lv : Nat) : Prop :=
  ∃ (st : Stmt) (N : List Str) (f : Addr) (fd : FuncData), Def K mg y st [ya] f fd ∧ FnScope N [ya] (defScope st) ∧
    ∀ (cdv : Value) (A : Around) (outer : List Env) (s : Shared) (H : Hp) (p : Addr × Obj) (n : Nat) (z : Str), L2H.Hot1 A p → Zc (.ref (C n)) none p.2 → kd n = some z → L2H.RoomH lv (A.deeper (envOfC y (defScope st) s.heap.objs.size f cdv)) →
      ∃ t, PSs (L2H.cxH (L2N.CX P w) P w K mg base N y (defScope st) f cdv A outer s H L2.E0 p) (defBody st) t ∧
        ∀ (Q : VK) (ρ : List Addr) (st : Sto), ES K T H ρ st → Post (EV K) K T C H ρ Q L2.E0 (.ok (errD z) st) → t { nx := fun _ H' => Q .non H', rt := Q } (L2.start N [.ref p.1]) H
/-- the suite's want of the handled exception -/
def TellsE (K : PySem.W.Frag) (T : List (Addr × Str)) (C : Nat → Addr) (kd : Nat → Option Str) (Q : VK) : XK := fun cls d H => ∃ (n : Nat) (z : Str) (ρ : List Addr) (st : Sto), kd n = some z ∧ cls = .ref (C n) ∧ d = none ∧ ES K T H ρ st ∧ Post (EV K) K T C H ρ Q L2.E0 (.ok (errD z) st)
section
variable {X : Cx} {a : Addr} {oe : Obj}
theorem pe_term {T : List (Addr × Str)} {C : Nat → Addr} {y ya e : Str} {kd : Nat → Option Str} {lv i n : Nat} {z : Str} {p1 p2 p3 : Pos} (h : TermOk X.prog X.w X.K X.mg X.base T C y ya kd lv) (B : Bears X a oe) (hz : Zc (.ref (C n)) none oe) (hk : kd n = some z) (hr : L2H.RoomH (lv + 1) X.A)
    (hN : X.N[i]? = some e) (hv : Vis X.env.scope e) (hg : Gl X y) (hdb : (y == ("__debug__" : Str)) = false := by decide) (hd : (e == ("__debug__" : Str)) = false := by decide) (hcd : (e == ("__classdict__" : Str)) = false := by decide) :
    PE X (.Call (.Name y p1) [.Name e p2] [] p3) (fun σ H Q => σ[i]? = some (some (.ref a)) ∧ ∃ ρ st, ES X.K T H ρ st ∧ Post (EV X.K) X.K T C H ρ Q L2.E0 (.ok (errD z) st)) := by
  obtain ⟨st, N, f, fd, Df, S, body⟩ := h
  refine ⟨fun pins s σ H Q I hh => ?_⟩
  obtain ⟨hσ, ρ, sto, es, hp⟩ := hh
  obtain ⟨oc, od, kV, doc, pm, an, cdv, ct, osl, efd, lk, hcd'⟩ := Df.F.ex
  have ha : PA X [.Name e p2] (tCons (tVar i) tNil) := pa_cons (pe_var hN hv hd hcd) pa_nil
  refine wpAny_Call_Name_kw (ld_glob I hg Df.g ?_ hdb)
  refine PySem.W.callWith_K (h₀ := X.base) I.ok.mod.kin Df.F.kp (thn (ha.run p3 pins s σ H (fun vs H1 => vs = [V.ref a] ∧ H1 = H) I ⟨.ref a, hσ, rfl, rfl⟩) fun us s1 ⟨vs, H1, I1, r, q⟩ => ⟨I1.kIn, ?_⟩) (by rfl) (by rfl)
  obtain ⟨ev, eH⟩ := q
  subst ev
  subst eH
  have hb := Df.b
  subst efd
  refine run_hot (E := L2.E0) B lk hcd' S hr hb (fun pins H s e s2 I3 z => pass_blk (X := X) pins σ H s e s2 I3 z) I1 r rfl fun hr' => ?_
  obtain ⟨t, ht, hq⟩ := body cdv X.A X.stack s1 H1 (a, oe) n z B.hot hz hk hr'
  exact ⟨t, ht, hq Q ρ sto es hp⟩
end
/-! ### a lambda, its exceptions known -/
section
variable {X : Cx} {pins : List (Addr × Obj)} {σ : L2.St} {H HZ : Hp} {s s1 : Shared}
/-- the lambda's context -/
def lamN (X : Cx) (A : Around) (outer : List Env) (s : Shared) (H : Hp) (E : XK) (scope : Scope) (f c' : Addr) : Cx :=
  (LamX.lamCx X A outer s H E scope f c').wish fun e s' => wpAny (model X.prog X.w) (A.deeper (LamX.lamEnv X scope s.heap.objs.size f c')) (leaving (LamX.lamEnv X scope s.heap.objs.size f c') e) (fun _ s'' => L2N.CX X.prog X.w outer H s E e s'') (fun e' s'' => L2N.CX X.prog X.w outer H s E e' s'') s'
theorem pass_lam {A : Around} {outer : List Env} {E : XK} {scope : Scope} {f c' : Addr} : Passes (L2N.CX (lamN X A outer s H E scope f c').prog (lamN X A outer s H E scope f c').w) (lamN X A outer s H E scope f c') E :=
  L2N.passes_call (X := lamN X A outer s H E scope f c') (W := fun cls d _ H => E cls d H) (L2N.takes_of rfl rfl rfl rfl) (fun _ _ _ _ h => h)
theorem pe_actN {Ng : List Str} {qg : Str} {sg : Scope} {g f c' : Addr} {cdg pm ctv : Value} {params : Arguments} {body : Expr} {scope : Scope} {k i : Nat} {a : Str} {pn : List (Addr × Obj)} {xe : Value → Shared → Prop} {W : WX} {Eg E : XK} {tb : TE} {p1 p2 : Pos}
    (I : Inv X pins σ H s) (L : LamX.LamS X.env.scope scope) (hf : s.heap.get? f = some (PySem.W.kla_obj "<lambda>" (X.env.qual ++ "<lambda>") params body scope (cloFrom X.env.cells scope.names []) pm c' ctv)) (hfn : H f = none) (hfr : f ∉ frs X.stack)
    (hbind : bindArgs (PySem.W.kla_fn "<lambda>" (X.env.qual ++ "<lambda>") params body scope (cloFrom X.env.cells scope.names []) pm (.ref c') ctv) ⟨[], []⟩ = pure [])
    (tk : L2N.Takes ((cxOf (L2N.CX X.prog X.w) X.prog X.w X.K X.mg X.base Ng qg sg g cdg X.A X.stack s H Eg).tr pn xe) W) (hW : ∀ cls d σ' H', E cls d H' → W cls d σ' H') (hr : Room (k + 1) (X.A.deeper (envOfC qg sg s.heap.objs.size g cdg)))
    (hbody : ∀ (A : Around) (outer : List Env) (s : Shared) (H : Hp), Room k (A.deeper (LamX.lamEnv X scope s.heap.objs.size f c')) → PE (lamN X A outer s H E scope f c') body tb)
    (hN : Ng[i]? = some a) (hv : Vis sg a) (hd : (a == ("__debug__" : Str)) = false := by decide) (hcd : (a == ("__classdict__" : Str)) = false := by decide) :
    PE ((cxOf (L2N.CX X.prog X.w) X.prog X.w X.K X.mg X.base Ng qg sg g cdg X.A X.stack s H Eg).tr pn xe) (.Call (.Name a p1) [] [] p2)
      (fun σZ HZ Q => σZ[i]? = some (some (.ref f)) ∧ HZ c' = some (LamX.CodeO c' (X.env.qual ++ "<lambda>")) ∧ tb σ HZ Q) := by
  refine ⟨fun pinsZ sZ σZ HZ Q IZ hyp => ?_⟩
  obtain ⟨hs, hc, ht⟩ := hyp
  refine wpAny_Call_Name_kw (thn ((pe_var (pos := p1) (i := i) hN hv hd hcd).run pinsZ sZ σZ HZ (fun v H1 => v = .ref f ∧ H1 = HZ) IZ ⟨.ref f, hs, rfl, rfl⟩) fun u s1 ⟨v, H1, I1, r1, q1⟩ => ?_)
  obtain ⟨ev, eH⟩ := q1
  subst ev
  rw [eH] at I1
  obtain rfl : u = Value.ref f := r1
  have of1 : s1.heap.get? f = some (PySem.W.kla_obj "<lambda>" (X.env.qual ++ "<lambda>") params body scope (cloFrom X.env.cells scope.names []) pm c' ctv) := I1.base.keep f _ hf hfn hfr fun z => nomatch (show f ∈ ([] : List Addr) from z)
  refine PySem.W.callWith_F0 ⟨_, _, _, _, of1⟩ ?_
  have un : Un (frs X.stack) [] H HZ s.heap s1.heap := I1.base
  obtain ⟨⟨oc, vs, t, hoc, hdc, hvc⟩, _, _⟩ := I1.hok c' _ hc
  have rc : codeAny (model X.prog X.w) (X.A.deeper (envOfC qg sg s.heap.objs.size g cdg)) (.call (.ref f) ⟨[], []⟩) (CR (L2N.CX X.prog X.w) (envOfC qg sg s.heap.objs.size g cdg :: X.stack) X.prog X.w HZ s1 Q E) s1 := by
    refine PySem.W.kla_callFunE hr.depth of1 rfl L.co L.gen rfl ⟨c', oc, vs, t, rfl, hoc, hdc, hvc⟩ ?_
    rw [hbind]
    refine wpAny_pure (wpAny_newFunctionEnv (fun y hy => (L.own y hy).2) (fun y hy => absurd hy (by simp)) (fun h₁ hns hsb => ⟨I1.nolimit.fresh _ hsb, ?_⟩) L.kind)
    show codeAny _ _ (.expr body (LamX.lamEnv X scope s1.heap.objs.size f c')) _ _
    have kp : ∀ b o, s1.heap.get? b = some o → h₁.get? b = some o := fun b o e => hsb.extBut b o (Nat.ne_of_lt (Heap.lt_size e)) (Heap.get?_push_of_some _ e)
    have J : Inv (lamN X (X.A.deeper (envOfC qg sg s.heap.objs.size g cdg)) (envOfC qg sg s.heap.objs.size g cdg :: X.stack) s1 HZ E scope f c') [] σ HZ { s1 with heap := h₁, toks := s1.toks + ([] : List (Str × Value)).length } :=
      (LamX.lam_start2 I L I1.env0 hr.hd un hns kp).wish _
    refine PySem.W.kla_codeExpr (wpAny_mono ((hbody _ _ s1 HZ (hr.deeper _)).run [] _ _ HZ Q J ht) (fun v s' hq => ?_) fun e s' hq => hq)
    obtain ⟨w', H', J', rv, q⟩ := hq
    exact ⟨w', H', J'.os, J'.bare, J'.base, J'.hok, rv, q⟩
  have hx : Passes (L2N.CX X.prog X.w) ((cxOf (L2N.CX X.prog X.w) X.prog X.w X.K X.mg X.base Ng qg sg g cdg X.A X.stack s H Eg).tr pn xe) E := L2N.passes_call tk hW
  refine wpAny_call (codeAny_mono rc fun r s' hq => ?_)
  cases r with
  | error e => exact hx pinsZ σZ HZ s1 e s' I1 hq
  | ok fl =>
    cases fl with
    | ret u => exact I1.after hq
    | next => exact False.elim hq
    | brk => exact False.elim hq
    | cont => exact False.elim hq
end

/-! ### told(lambda: deed) -/
/-- what the deed makes, an error told -/
def dTold (kd : Nat → Option Str) (m : ME) : ME := fun env st => match m env st with
  | .ok d st => .ok d st
  | .er n st => match kd n with
    | some z => .ok (errD z) st
    | none => .no
  | .no => .no
theorem frN {H H1 : Hp} {ρ : List Addr} (e : LamX.ExtN H H1) : Fr H ρ H1 ρ := ⟨⟨[], (List.append_nil _).symm⟩, fun a o h _ t => e a o h t, fun a xs h => e a _ h (fun _ z => nomatch z), fun a o u h => e a _ h (fun _ z => nomatch z), fun _ h n => absurd h n⟩
theorem esN {K : PySem.W.Frag} {T : List (Addr × Str)} {H H1 : Hp} {ρ : List Addr} {st : Sto} (es : ES K T H ρ st) (e : LamX.ExtN H H1) (t : LamX.Tabs T H1) : ES K T H1 ρ st := ⟨t, es.len, es.nd, fun i a c h1 h2 => (es.cell i a c h1 h2).mono (frN e) fun o h n => e a o h n⟩
def tTold (K : PySem.W.Frag) (G : Gx) (kd : Nat → Option Str) (m : ME) : TE := fun σ H Q => LamX.Tabs G.T H ∧ ∀ H1, LamX.ExtN H H1 → LamX.Tabs G.T H1 → canE K { G with E := TellsE K G.T G.C kd Q } m σ H1 Q
/-- the def that tells: its body, its names -/
structure ToldS (stT : Stmt) (a e b y : Str) : Prop where
  body : ∃ p1 p2 p3 p4 p5 p6 p7 p8 p9 p10, defBody stT = [.Try [.Return (some (.Call (.Name a p1) [] [] p2)) p3] [.ExceptHandler (some (.Name b p4)) (some e) [.Return (some (.Call (.Name y p5) [.Name e p6] [] p7)) p8] p9] [] [] p10]
  sc : FnScope [a, e] [a] (defScope stT)
  va : Vis (defScope stT) a
  ve : Vis (defScope stT) e
  le : (defScope stT).names.lookup e = some .local
  gb : (defScope stT).names.lookup b = some .globalImplicit
  gy : (defScope stT).names.lookup y = some .globalImplicit
  k : (defScope stT).kind = .function
section
variable {X : Cx} {G : Gx}
theorem se_told {x a e b y ya : Str} {cb : Addr} {kd : Nat → Option Str} {stT : Stmt} {g c P : Addr} {fd : FuncData} {k lv : Nat} {params : Arguments} {body : Expr} {scope : Scope} {m : ME} {p lpos pos : Pos}
    (Df : Def X.K X.mg x stT [a] g fd) (TS : ToldS stT a e b y) (ht : TermOk X.prog X.w X.K X.mg X.base G.T G.C y ya kd lv) (hcb : X.mg b = some (.ref cb)) (hex : ∀ n z, kd n = some z → PySem.W.exmOne X.K (.ref (G.C n)) (.ref cb) = some true)
    (hg : Gl X x) (hr : Room (k + 2) X.A) (hlv : lv ≤ k) (TB : LamX.TabB X.base X.mg c P) (hcode : X.env.code = .ref c) (hmT : (P, X.env.qual ++ "<lambda>") ∈ G.T) (hu : ∀ p ∈ G.T, p.1 = P → p.2 = X.env.qual ++ "<lambda>") (L : LamX.LamS X.env.scope scope) (hdef : defaultsOf params X.env = ([], []))
    (hbind : ∀ (q : Str) (cl : List (Str × Addr)) (pm cv ctv : Value), bindArgs (PySem.W.kla_fn "<lambda>" q params body scope cl pm cv ctv) ⟨[], []⟩ = pure [])
    (hbody : ∀ (A : Around) (outer : List Env) (s : Shared) (H : Hp) (E : XK) (f c' : Addr), Room k (A.deeper (LamX.lamEnv X scope s.heap.objs.size f c')) → ∃ te, SE (lamN X A outer s H E scope f c') { G with E := E } body te m)
    (hdb : (x == ("__debug__" : Str)) = false := by decide) (hda : (a == ("__debug__" : Str)) = false := by decide) (hca : (a == ("__classdict__" : Str)) = false := by decide) (hde : (e == ("__debug__" : Str)) = false := by decide) (hce : (e == ("__classdict__" : Str)) = false := by decide)
    (hdy : (y == ("__debug__" : Str)) = false := by decide) (hdbb : (b == ("__debug__" : Str)) = false := by decide) :
    SE X G (.Call (.Name x p) [.Lambda params body scope lpos] [] pos) (tTold X.K G kd m) (dTold kd m) := by
  refine ⟨⟨fun pins s σ H Q I hyp => ?_⟩, fun σ env ρ st H Q ev es h => ?_⟩
  · obtain ⟨hT, want⟩ := hyp
    obtain ⟨oc, od, kV, doc, pm, an, cdv, ct, osl, efd, lk, hcg⟩ := Df.F.ex
    have hb := Df.b
    subst efd
    obtain ⟨p1, p2, p3, p4, p5, p6, p7, p8, p9, p10, ebody⟩ := TS.body
    refine wpAny_Call_Name_kw (ld_glob I hg Df.g ?_ hdb)
    refine PySem.W.callWith_K (h₀ := X.base) I.ok.mod.kin Df.F.kp ?_ (by rfl) (by rfl)
    show wpAny _ _ (spliced ((false, eval (.Lambda params body scope lpos) X.env) :: backTo pos (starEach [] X.env))) _ _ s
    refine Calls.spliced_cons (LamX.lam_make2 I TB hcode hmT hu hT hdef (L.has I.ok) fun f c' pm' ctv H1 s' I1 eN T1 hf hfn hfr hco => ?_)
    refine Calls.spliced_nil ⟨I1.kIn, ?_⟩
    have rc : codeAny (model X.prog X.w) X.A (.call (.ref g) ⟨[.ref f], []⟩) (CR (L2N.CX X.prog X.w) X.stack X.prog X.w H1 s' Q L2.E0) s' := by
      refine LamX.run_ofS (CX := L2N.CX X.prog X.w) (N := [a, e]) (ps := [a]) (us := [.ref f]) (vs := [.ref f]) lk hcg TS.sc hr I1.env0 (hb s' [.ref f] I1.kIn rfl) (.cons rfl .nil) rfl fun hr' => ?_
      have hnd := TS.sc.nd
      have hZ : ∀ (Z : Cx), Z = cxOf (L2N.CX X.prog X.w) X.prog X.w X.K X.mg X.base [a, e] x (defScope stT) g cdv X.A X.stack s' H1 L2.E0 → ∃ t, PSs Z (defBody stT) t ∧ t { nx := fun _ H' => Q .non H', rt := Q } (L2.start [a, e] [.ref f]) H1 := by
        intro Z eZ
        have hr2 : L2H.RoomH (lv + 1) Z.A := by
          subst eZ
          have := hr'.dp
          have := hr'.un
          exact L2H.RoomH.mono (L2H.roomH_of hr') (by omega)
        subst eZ
        rw [ebody]
        refine ⟨_, pss_one (L2N.ps_try_as (X := cxOf (L2N.CX X.prog X.w) X.prog X.w X.K X.mg X.base [a, e] x (defScope stT) g cdv X.A X.stack s' H1 L2.E0) (i := 1) (c := .ref cb) (Wout := fun _ _ _ _ => False)
            (tb := fun W D σZ HZ => ∃ Ech : XK, (∀ cls d σ' H', Ech cls d H' → σ'.length = 2 → W cls d σ' H') ∧ σZ[0]? = some (some (.ref f)) ∧ HZ c' = some (LamX.CodeO c' (X.env.qual ++ "<lambda>")) ∧ canE X.K { G with E := Ech } m σ HZ D.rt)
            (ts := fun ax cls d D σZ HZ => ∃ (n : Nat) (z : Str) (ρ : List Addr) (st : Sto), kd n = some z ∧ cls = .ref (G.C n) ∧ d = none ∧ σZ[1]? = some (some (.ref ax)) ∧ ES X.K G.T HZ ρ st ∧ Post (EV X.K) X.K G.T G.C HZ ρ D.rt L2.E0 (.ok (errD z) st))
            rfl rfl hnd rfl ?_ ⟨TS.gb, hdbb, .inl hcb⟩ (fun u s2 xx => ?_) (fun W pn xe tk _ => ?_) (fun ax oe cls d pn hzn hfl => ?_)), ?_⟩
        · show (envOfC x (defScope stT) s'.heap.objs.size g cdv).kindOf e = some .local
          exact TS.le
        · obtain ⟨_, _, _, _, _, _, _, _, _, _, _, _, _, _, _, _, z⟩ := xx
          exact z.elim
        · refine ⟨fun pinsZ sZ σZ HZ D IZ hyp => ?_⟩
          obtain ⟨Ech, hW, h1, h2, h3⟩ := hyp
          have tk' : L2N.Takes ((cxOf (L2N.CX X.prog X.w) X.prog X.w X.K X.mg X.base [a, e] x (defScope stT) g cdv X.A X.stack s' H1 L2.E0).tr pn xe) (fun cls d σ H => σ.length = 2 → W cls d σ H) := fun u s2 xx => by
            obtain ⟨ax, B, sI, pI, σI, HI, cls, d, e1, I2, e2, e3, e4, e5, e6, e7, w⟩ := xx
            exact tk u s2 ⟨ax, B, sI, pI, σI, HI, cls, d, e1, I2, e2, e3, e4, e5, e6, e7, w I2.len⟩
          have act := pe_actN (E := Ech) (tb := canE X.K { G with E := Ech } m) (i := 0) (a := a) (p1 := p1) (p2 := p2) I1 L hf hfn hfr (hbind _ _ _ _ _) tk' hW hr' (fun A outer s H hr3 => by
            obtain ⟨te, hte⟩ := hbody A outer s H Ech f c' hr3
            exact hte.can) rfl TS.va hda hca
          exact (pss_one (ps_ret (pos := p3) act)).run pinsZ sZ σZ HZ D IZ ⟨h1, h2, h3⟩
        · refine ⟨fun pinsZ sZ σZ HZ D IZ hyp => ?_⟩
          obtain ⟨n, z, ρ, st, hk, e1, e2, h1, h2, h3⟩ := hyp
          subst e1
          subst e2
          obtain ⟨vs, hv⟩ := hfl
          have B : Bears ((cxOf (L2N.CX X.prog X.w) X.prog X.w X.K X.mg X.base [a, e] x (defScope stT) g cdv X.A X.stack s' H1 L2.E0).suite ax ((ax, oe) :: pn)) ax oe := ⟨List.mem_cons_self, rfl, vs, hv, hzn.2.2 vs hv⟩
          have tm := pe_term (i := 1) (e := e) (y := y) (ya := ya) (p1 := p5) (p2 := p6) (p3 := p7) (X := (cxOf (L2N.CX X.prog X.w) X.prog X.w X.K X.mg X.base [a, e] x (defScope stT) g cdv X.A X.stack s' H1 L2.E0).suite ax ((ax, oe) :: pn)) ht B hzn.zc hk ⟨hr2.dp, hr2.un⟩ rfl TS.ve TS.gy hdy hde hce
          exact (pss_one (ps_ret (pos := p8) tm)).run pinsZ sZ σZ HZ D IZ ⟨h1, ρ, st, h2, h3⟩
        · refine ⟨TellsE X.K G.T G.C kd Q, fun cls d σ' H' te hl => ?_, rfl, hco, want H1 eN T1⟩
          obtain ⟨n, z, ρ, st, hk, e1, e2, es, hp⟩ := te
          subst e1
          refine ⟨true, hex n z hk, fun _ ax na => ⟨n, z, ρ, st, hk, rfl, e2, ?_, es, hp⟩, fun q => nomatch q⟩
          exact List.getElem?_set_self (by rw [hl]; decide)
      exact hZ _ rfl
    refine wpAny_call (codeAny_mono rc fun r s2 hq => ?_)
    cases r with
    | error e =>
      obtain ⟨_, _, _, _, _, _, _, _, _, _, _, _, z⟩ := hq
      exact z.elim
    | ok fl =>
      cases fl with
      | ret u => exact I1.after hq
      | next => exact False.elim hq
      | brk => exact False.elim hq
      | cont => exact False.elim hq
  · refine ⟨es.tabs, fun H1 eN T1 => ⟨env, ρ, st, ev.mono (frN eN), esN es eN T1, ?_⟩⟩
    unfold dTold at h
    cases q : m env st with
    | ok d st1 =>
      rw [q] at h
      exact Post.shift (frN eN) h
    | er n st1 =>
      rw [q] at h
      dsimp only at h
      cases hk : kd n with
      | none => rw [hk] at h; exact h.elim
      | some z =>
        rw [hk] at h
        exact fun ρ' H' f es' => ⟨n, z, ρ', st1, hk, rfl, rfl, es', Post.shift ((frN eN).trans f) h⟩
    | no => rw [q] at h; exact h.elim
end
end Dt

set_option Elab.async false
set_option linter.all false
set_option maxRecDepth 100000
set_option maxHeartbeats 4000000
/-! A law's ends: the kinds of errors, the def that tells, the law itself. -/
namespace Dt
open PySem PySem.Spec PyProof.Rows L2 Dn Hh
def kinds : List Str := ["InvalidChain", "InvalidNumber", "InvalidStep", "InvalidText", "TooMany", "NothingToUndo"]
def kd (n : Nat) : Option Str := kinds[n]?
/-- what isinstance says of the text's errors -/
structure KindsOk (K : PySem.W.Frag) (C : Nat → Addr) : Prop where
  ex : ∀ n z, kd n = some z → ExcC K (C n)
  one : ∀ n z j y, kd n = some z → kd j = some y → PySem.W.kitOne K (.ref (C n)) (.ref (C j)) = some (decide (j = n))
  val : ∀ n z, kd n = some z → PySem.W.kitOne K (.ref (C n)) (.type "ValueError") = some true
structure ToldOk (P : Program) (w : World) (K : PySem.W.Frag) (mg : Str → Option Value) (base : Heap) (T : List (Addr × Str)) (C : Nat → Addr) (stT : Stmt) (gT : Addr) (fdT : FuncData) (cb : Addr) : Prop where
  D : Def K mg "_law_told" stT ["_law_deed"] gT fdT
  S : ToldS stT "_law_deed" "_law_e" "RoundError" "_law_term"
  tm : TermOk P w K mg base T C "_law_term" "_law_e" kd 0
  gb : mg "RoundError" = some (.ref cb)
  ex : ∀ n z, kd n = some z → PySem.W.exmOne K (.ref (C n)) (.ref cb) = some true
/-- the tables of a law that makes lambdas: its own -/
def lamT (P : Addr) : List (Addr × Str) := [(P, (("law" : Str) ++ ".<locals>.") ++ "<lambda>")]
/-- fun_ok, the code object known -/
theorem fun_okC {P : Program} {w : World} {K : PySem.W.Frag} {T : List (Addr × Str)} {mg : Str → Option Value} {base : Heap} {x qual : Str} {st : Stmt} {f c : Addr} {fd : FuncData} {N ps : List Str} {k : Nat} {C : Nat → Addr} {M : FN} {m : MS} {n : Nat} (F : Fun K x qual st f fd) (S : FnScope N ps (defScope st)) (hc : fd.code = .ref c) (hn : ps.length = n := by rfl)
    (hbody : ∀ (A : Around) (outer : List Env) (s : Shared) (H : Hp) (E : XK), Room k (A.deeper (envOfC qual (defScope st) s.heap.objs.size f (.ref c))) →
      ∃ t, SSs (cxOf (L2N.CX P w) P w K mg base N qual (defScope st) f (.ref c) A outer s H E) ⟨C, T, E⟩ (defBody st) t m)
    (hM : ∀ (xs : List D) (st : Sto), xs.length = n → M xs st ≠ .no → Tells st (m (startE N.length xs) st).res (M xs st)) : FnOk P w K mg base (L2N.CX P w) (k + 1) f fd ps (spM K T C n M) := by
  obtain ⟨oc, od, kV, doc, pm, an, cdv, ct, osl, rfl, lk, hcd⟩ := F.ex
  have ec : cdv = .ref c := hc
  subst ec
  refine fn_of lk hcd S (fun vs H Q E h => ?_) fun A outer s H vs Q E hr h => ?_
  · obtain ⟨xs, ρ, st, h1, h2, _⟩ := h
    rw [← h2.length, h1, hn]
  · obtain ⟨xs, ρ, st0, h1, h2, h3, h4⟩ := h
    obtain ⟨t, Tt⟩ := hbody A outer s H E hr
    refine ⟨t, Tt.pe, Tt.sd _ (startE N.length xs) ρ st0 H _ h2.start h3 ?_⟩
    have hne : M xs st0 ≠ .no := fun z => by rw [z] at h4; exact h4
    have q := Post.tells h3 (hM xs st0 h1 hne) h4
    cases e : m (startE N.length xs) st0 with
    | rt d st1 => rw [e] at q; exact q
    | nx env st1 =>
      rw [e] at q
      exact fun ρ' H' σ' f _ e1 => q ρ' H' .non f .non e1
    | er n st1 => rw [e] at q; exact q
    | bk _ _ => rw [e] at q; exact q.elim
    | ct _ _ => rw [e] at q; exact q.elim
    | no => rw [e] at q; exact q
end Dt

set_option Elab.async false
set_option linter.all false
set_option maxRecDepth 100000
set_option maxHeartbeats 4000000
/-! Mirrors run: places of a store that has grown, operations on plain data. -/
namespace Dn
open PySem L2
variable {st : Sto}
theorem at_k (l : Sto) (k : Nat) : (st ++ l)[st.length + k]? = l[k]? := by rw [List.getElem?_append_right (Nat.le_add_right _ _), Nat.add_sub_cancel_left]
theorem at_0 (l : Sto) : (st ++ l)[st.length]? = l[0]? := by rw [List.getElem?_append_right (Nat.le_refl _), Nat.sub_self]
theorem seq_k (l : Sto) (k : Nat) : Sto.seq (st ++ l) (st.length + k) = Sto.seq l k := by unfold Sto.seq; rw [at_k]
theorem seq_0 (l : Sto) : Sto.seq (st ++ l) st.length = Sto.seq l 0 := by unfold Sto.seq; rw [at_0]
theorem seq_at {n : Nat} {ds : List D} (h : st[n]? = some (.lst ds)) : Sto.seq st n = some ds := by unfold Sto.seq; rw [h]
theorem seq_c0 (ds : List D) (l : Sto) : Sto.seq (.lst ds :: l) 0 = some ds := rfl
theorem seq_cs (c : Cell) (l : Sto) (k : Nat) : Sto.seq (c :: l) (k + 1) = Sto.seq l k := rfl
theorem d_eq_int (i j : Int) (st : Sto) : eqD (.int i) (.int j) st = .ok (.bl (decide (i = j))) st := rfl
theorem d_ne_int (i j : Int) (st : Sto) : neD (.int i) (.int j) st = .ok (.bl (!decide (i = j))) st := rfl
theorem d_eq_str (i j : Str) (st : Sto) : eqD (.str i) (.str j) st = .ok (.bl (decide (i = j))) st := rfl
theorem d_ne_str (i j : Str) (st : Sto) : neD (.str i) (.str j) st = .ok (.bl (!decide (i = j))) st := rfl
theorem d_eq_bl (i j : Bool) (st : Sto) : eqD (.bl i) (.bl j) st = .ok (.bl (decide (i = j))) st := rfl
theorem d_add_int (i j : Int) (st : Sto) : addD (.int i) (.int j) st = .ok (.int (i + j)) st := rfl
theorem d_sub_int (i j : Int) (st : Sto) : subD (.int i) (.int j) st = .ok (.int (i - j)) st := rfl
theorem d_neg_int (i : Int) (st : Sto) : negD (.int i) st = .ok (.int (-i)) st := rfl
theorem d_cmp_int (g : Int → Int → Bool) (i j : Int) (st : Sto) : cmpD g (.int i) (.int j) st = .ok (.bl (g i j)) st := rfl
theorem d_mul_int {i j : Int} (h : mulOk i j = true) (st : Sto) : mulD (.int i) (.int j) st = .ok (.int (i * j)) st := by simp only [mulD, h, ↓reduceIte]
theorem d_fdiv_int {i j : Int} (h : 0 < j ∧ j.natAbs.log2 < 9000) (st : Sto) : fdivD (.int i) (.int j) st = .ok (.int (i / j)) st := by simp only [fdivD, if_pos h]
theorem d_mod_int {i j : Int} (h : 0 < j) (st : Sto) : modD (.int i) (.int j) st = .ok (.int (i % j)) st := by simp only [modD, if_pos h]
theorem d_ix_tup (ds : List D) (i : Int) (st : Sto) : ixD (.tup ds) (.int i) st = match L2.atI ds i with
  | some d => .ok d st
  | none => .no := rfl
theorem d_ix_kl (ds : List D) (i : Int) (st : Sto) : ixD (.kl ds) (.int i) st = match L2.atI ds i with
  | some d => .ok d st
  | none => .no := rfl
theorem d_ix_ref (n : Nat) (i : Int) (st : Sto) : ixD (.ref n) (.int i) st = match Sto.seq st n with
  | some ds => match L2.atI ds i with
    | some d => .ok d st
    | none => .no
  | none => .no := rfl
theorem atI_0 {α : Type} (a : α) (r : List α) : L2.atI (a :: r) 0 = some a := by
  have h : (0 : Int) < ((a :: r).length : Nat) := by rw [List.length_cons]; omega
  unfold L2.atI L2.ixN
  rw [if_pos (Int.le_refl 0), if_pos h]
  rfl
theorem atI_1 {α : Type} (a b : α) (r : List α) : L2.atI (a :: b :: r) 1 = some b := by
  have h : (1 : Int) < ((a :: b :: r).length : Nat) := by rw [List.length_cons, List.length_cons]; omega
  unfold L2.atI L2.ixN
  rw [if_pos (by decide), if_pos h]
  rfl
theorem atI_2 {α : Type} (a b c : α) (r : List α) : L2.atI (a :: b :: c :: r) 2 = some c := by
  have h : (2 : Int) < ((a :: b :: c :: r).length : Nat) := by rw [List.length_cons, List.length_cons, List.length_cons]; omega
  unfold L2.atI L2.ixN
  rw [if_pos (by decide), if_pos h]
  rfl
theorem d_atI {α : Type} (xs : List α) (k : Nat) : L2.atI xs (k : Int) = xs[k]? := by
  unfold L2.atI L2.ixN
  rw [if_pos (Int.natCast_nonneg k)]
  by_cases h : (k : Int) < (xs.length : Nat)
  · rw [if_pos h]
    rfl
  · rw [if_neg h, List.getElem?_eq_none (by omega)]
    rfl
end Dn
namespace Dn
theorem b_ft : (false == true) = false := rfl
theorem b_tt : (true == true) = true := rfl
theorem b_tf : (true == false) = false := rfl
theorem b_ff : (false == false) = true := rfl
end Dn
namespace Dn
theorem nc_0 : ((0 : Nat) : Int) = 0 := rfl
theorem nc_1 : ((1 : Nat) : Int) = 1 := rfl
theorem nc_2 : ((2 : Nat) : Int) = 2 := rfl
theorem nc_3 : ((3 : Nat) : Int) = 3 := rfl
theorem nc_4 : ((4 : Nat) : Int) = 4 := rfl
end Dn

set_option Elab.async false
set_option linter.all false
set_option maxRecDepth 100000
set_option maxHeartbeats 4000000
/-! The end of a law that makes lambdas: what the top has left. -/
namespace Dt
open PySem PySem.Spec PyProof.Rows L2 Dn Hh

/-- a def as it stands in the written part -/
structure DefIs (K : PySem.W.Frag) (x : Str) (st : Stmt) : Prop where
  ex : ∃ (f : Addr) (oc : Value) (od an : Option Addr) (kV doc pm cdv ct : Value) (osl : Array (Option Value)), PySem.W.nsIn K mainGlobals x = some (some (.ref f)) ∧
    K.lookup f = some ⟨oc, od, .func (PySem.W.fnOf x x (defArgs st) (defBody st) (defScope st) .none kV doc pm an cdv ct), osl⟩ ∧ PySem.W.codeIn K cdv x = true ∧ PySem.W.keepIn K (.ref f) = true
theorem DefIs.mk' {K : PySem.W.Frag} {x : Str} {st : Stmt} {f : Addr} {oc : Value} {od an : Option Addr} {kV doc pm cdv ct : Value} {osl : Array (Option Value)} (a : PySem.W.nsIn K mainGlobals x = some (some (.ref f)))
    (l : K.lookup f = some ⟨oc, od, .func (PySem.W.fnOf x x (defArgs st) (defBody st) (defScope st) .none kV doc pm an cdv ct), osl⟩) (c : PySem.W.codeIn K cdv x = true) (k : PySem.W.keepIn K (.ref f) = true) : DefIs K x st := ⟨_, _, _, _, _, _, _, _, _, _, a, l, c, k⟩
theorem DefIs.def {K : PySem.W.Frag} {x : Str} {st : Stmt} {h : Heap} {mg : Str → Option Value} {ps : List Str} (d : DefIs K x st) (X : K.In h) (G : h.Ns mainGlobals mg)
    (hb : ∀ (kV doc pm : Value) (an : Option Addr) (cdv ct : Value) (us : List Value), us.length = ps.length → bindArgs (PySem.W.fnOf x x (defArgs st) (defBody st) (defScope st) .none kV doc pm an cdv ct) ⟨us, []⟩ = pure (ps.zip us)) : ∃ f fd, Def K mg x st ps f fd := by
  obtain ⟨f, oc, od, an, kV, doc, pm, cdv, ct, osl, a, l, c, k⟩ := d.ex
  exact ⟨f, _, fun_mk (st := st) l c k, PySem.W.mg_of X G a, (fun_mk (st := st) l c k).binds hb⟩
/-- the law itself, its code object and its table -/
structure LawIs (K : PySem.W.Frag) (x : Str) (st : Stmt) (c P : Addr) : Prop where
  ex : ∃ (f : Addr) (oc : Value) (od an : Option Addr) (kV doc pm ct : Value) (osl : Array (Option Value)), PySem.W.nsIn K mainGlobals x = some (some (.ref f)) ∧
    K.lookup f = some ⟨oc, od, .func (PySem.W.fnOf x x (defArgs st) (defBody st) (defScope st) .none kV doc pm an (.ref c) ct), osl⟩ ∧ PySem.W.codeIn K (.ref c) x = true ∧ PySem.W.keepIn K (.ref f) = true
  hd : PySem.W.codeHdIn K c P = true
  no : K.lookup P = none
theorem LawIs.mk' {K : PySem.W.Frag} {x : Str} {st : Stmt} {f c P : Addr} {oc : Value} {od an : Option Addr} {kV doc pm ct : Value} {osl : Array (Option Value)} (a : PySem.W.nsIn K mainGlobals x = some (some (.ref f)))
    (l : K.lookup f = some ⟨oc, od, .func (PySem.W.fnOf x x (defArgs st) (defBody st) (defScope st) .none kV doc pm an (.ref c) ct), osl⟩) (cc : PySem.W.codeIn K (.ref c) x = true) (k : PySem.W.keepIn K (.ref f) = true) (hd : PySem.W.codeHdIn K c P = true) (no : K.lookup P = none) : LawIs K x st c P := ⟨⟨_, _, _, _, _, _, _, _, _, a, l, cc, k⟩, hd, no⟩
/-- an error's class in the written part; cb: the base that the telling def catches -/
structure ErrIs (K : PySem.W.Frag) (x : Str) (cb c : Addr) : Prop where
  a : PySem.W.nsIn K mainGlobals x = some (some (.ref c))
  ex : PySem.W.excIn K c [.type "ValueError", .type "Exception", .type "BaseException", .type "object"] "ValueError.__new__" = true
  kp : PySem.W.keepIn K (.ref c) = true
  sb : PySem.W.subIn K (.ref c) (.type "BaseException") = some true
  ty : PySem.W.typeIn K (.ref c) = some (.type "type")
  ga : PySem.W.findIn K (.ref c) "__getattribute__" = some (some (.builtin "BaseException.__getattribute__"))
  gg : PySem.W.findIn K (.ref c) "__getattr__" = some none
  dc : PySem.W.hasDictIn K c = true
  gc : PySem.W.findIn K (.ref c) "__class__" = some (some (.builtin "object.__class__"))
  mr : PySem.W.mroIn K c (.type "object") = some true
  sv : PySem.W.subIn K (.ref c) (.type "ValueError") = some true
  sr : PySem.W.subIn K (.ref c) (.ref cb) = some true
theorem ErrIs.exc {K : PySem.W.Frag} {x : Str} {cb c : Addr} {h : Heap} {mg : Str → Option Value} (e : ErrIs K x cb c) (X : K.In h) (G : h.Ns mainGlobals mg) : Exc K mg x c := ⟨PySem.W.mg_of X G e.a, e.ex, e.kp, e.sb, e.ty⟩
/-- .. what all of them share -/
structure ErrAll (K : PySem.W.Frag) (cb : Addr) : Prop where
  a : PySem.W.nsIn K mainGlobals "RoundError" = some (some (.ref cb))
  sb : PySem.W.subIn K (.ref cb) (.type "BaseException") = some true
  dc : PySem.W.hasDictIn K cb = true
  ty : PySem.W.typeIn K (.ref cb) = some (.type "type")
  sp : PySem.W.specialIn K (.builtin "object.__class__") "__get__" = some (some (.builtin "getset_descriptor.__get__"))
  tk : PySem.W.takesIn K (.builtin "object.__class__") = some true
def cOf (l : List Addr) (n : Nat) : Addr := l.getD n 0
theorem clsIn_some {K : PySem.W.Frag} {c : Addr} (h : PySem.W.hasDictIn K c = true) : (PySem.W.clsIn K c).isSome = true := by
  obtain ⟨cd, e, _⟩ := PySem.W.any_some h
  rw [e]
  rfl
theorem kinds_ok {K : PySem.W.Frag} {cb : Addr} {cs : List Addr} (A : ErrAll K cb) (hl : cs.length = 6) (E : ∀ n z, kd n = some z → ErrIs K z cb (cOf cs n)) (N : ∀ i j, i < 6 → j < 6 → i ≠ j → PySem.W.subIn K (.ref (cOf cs i)) (.ref (cOf cs j)) = some false ∧ cOf cs i ≠ cOf cs j) : KindsOk K (cOf cs) where
  ex := fun n z h => ⟨(E n z h).ga, (E n z h).gg, (E n z h).sb, (E n z h).dc, (E n z h).gc, A.sp, A.tk, (E n z h).mr⟩
  one := fun n z j y h h' => by
    have hn : n < 6 := (List.getElem?_eq_some_iff.mp h).1
    have hj : j < 6 := (List.getElem?_eq_some_iff.mp h').1
    unfold PySem.W.kitOne
    by_cases e : j = n
    · subst e
      rw [if_pos (beq_self_eq_true _), decide_eq_true rfl]
    · obtain ⟨n1, n2⟩ := N n j hn hj (Ne.symm e)
      rw [if_neg (fun q => n2 (Value.ref.inj (beq_iff_eq.mp q))), decide_eq_false e]
      unfold PySem.W.kitCls
      dsimp only
      rw [if_pos (by rw [clsIn_some (E j y h').dc, (E j y h').ty]; rfl)]
      exact n1
  val := fun n z h => by
    unfold PySem.W.kitOne
    rw [if_neg (by exact Bool.false_ne_true)]
    unfold PySem.W.kitCls
    dsimp only
    rw [if_pos (by decide +kernel)]
    exact (E n z h).sv
theorem codeHd_by {K : PySem.W.Frag} {c P : Addr} {o : Obj} (l : K.lookup c = some o) (h : (match (some o : Option Obj) with
  | some ⟨.type "code", _, .fields vs, _⟩ => (match (vs[11]? : Option Value) with | some (.ref P') => P' == P | _ => false) &&
      (match vs.getD 18 .none with | .str _ _ => true | _ => false) && (match vs.getD 7 .none with | .int _ _ => true | _ => false) &&
      (match vs.getD 9 .none with | .bool _ => true | _ => false) && (match vs.getD 10 .none with | .int _ _ => true | _ => false) && c != P
  | _ => false) = true) : PySem.W.codeHdIn K c P = true := by
  unfold PySem.W.codeHdIn
  rw [l]
  exact h
/-- a tuple of texts in the written part -/
structure StrsIs (K : PySem.W.Frag) (x : Str) (xs : List Str) : Prop where
  ex : ∃ (a : Addr) (od : Option Addr) (its : Array Value) (n : Nat) (osl : Array (Option Value)), PySem.W.nsIn K mainGlobals x = some (some (.ref a)) ∧ K.lookup a = some ⟨.type "tuple", od, .seq its n, osl⟩ ∧ its.size ≤ sizeLine ∧ Vals (xs.map V.str) its.toList
theorem StrsIs.mk' {K : PySem.W.Frag} {x : Str} {xs : List Str} {a : Addr} {od : Option Addr} {its : Array Value} {n : Nat} {osl : Array (Option Value)} (h1 : PySem.W.nsIn K mainGlobals x = some (some (.ref a))) (h2 : K.lookup a = some ⟨.type "tuple", od, .seq its n, osl⟩)
    (h3 : Vals (xs.map V.str) its.toList) (h4 : xs.length ≤ 1000) : StrsIs K x xs := ⟨_, _, _, _, _, h1, h2, by
  have e : xs.length = its.size := by
    have q := h3.length
    simpa using q
  rw [← e]
  exact Nat.le_trans h4 (Nat.le_trans (by decide) line5), h3⟩
theorem StrsIs.tup {K : PySem.W.Frag} {x : Str} {xs : List Str} {h : Heap} {mg : Str → Option Value} (e : StrsIs K x xs) (X : K.In h) (G : h.Ns mainGlobals mg) : KTup K mg x (.tup (xs.map D.str)) := by
  obtain ⟨a, od, its, n, osl, h1, h2, h3, h4⟩ := e.ex
  exact ⟨a, PySem.W.mg_of X G h1, fun H ρ => .tup (.inr ⟨_, its, n, h2, rfl, rfl, h3, h4⟩) evs_strs⟩
theorem kint_loose {lv : List (Str × PySem.W.WData)} {mg : Str → Option Value} {h : Heap} {p : Program} {x : Str} {i : Int} (L : PySem.W.XL p lv mg h) (hm : (x, PySem.W.WData.int i) ∈ lv) : KInt mg x i := by
  obtain ⟨v, e, r⟩ := L.2.val _ hm
  cases r with
  | int i t => exact ⟨t, e⟩
/-- the end, the loose names known -/
theorem walk_mine {l : PySem.W.OpenLaw} {n k : Nat} {q : Program} {loose : List Str} {XP : (Str → Option Value) → Heap → Prop} {YP : World → Heap → Prop} {d : DefRec} {K : Params → PySem.W.Frag} {CX : World → CXT} {x : Str}
    (hn : l.most = some n) (hn2 : n ≤ sizeLine) (hdf : d.params.defaults = []) (hr : Room k callerA) (hY : ∀ (w : World) (h : Heap), YP w h → (K w.params).In h)
    (F : ∀ (w : World) (mg : Str → Option Value) (fa : Addr) (h : Heap), YP w h → XP mg h → (K w.params).In h → h.Ns mainGlobals mg → mg d.name = some (.ref fa) → LamX.LawAtS l w (K w.params) (CX w) k n x mg fa h)
    (hCX : ∀ (w : World) (H : Hp) (s : Shared) (e : Value) (s' : Shared), CX w [] H s (fun _ _ _ => False) e s' → False) : PySem.W.WalkO q loose XP YP l.row.toRowW d [] (fun f vs => PySem.call f vs) := by
  refine Att.attach_callB hn hdf fun w s₀ s₁ mg mb fa o pm cd doc a vs ns G Y ho hd hcd hmg hobj hints hlen hbits hg => ?_
  have KX := hY w _ Y
  obtain ⟨fd, cs, sp, hT, nT, Cc, hb, hsp, hF⟩ := F w mg fa _ Y G.X KX G.T.g hmg
  exact LamX.law_callTs KX G.T.g G.T.b G.T.builtins G.T.nolimit hg hT nT Cc G.T.bmain hobj hints (Nat.le_trans hlen hn2) hr hF hb (fun H hH hS => hsp H a ns hlen hbits hH hS) fun H e s' => hCX w H s₁ e s'
theorem evs_map_int {K : PySem.W.Frag} {H : Hp} {ρ : List Addr} : ∀ ns : List Int, EVs K H ρ (ns.map D.int) (ns.map V.int)
  | [] => .nil
  | n :: ns => .cons (.int n) (evs_map_int ns)
/-- a law's promise from its mirror -/
theorem law_at {l : PySem.W.OpenLaw} {w : World} {K : PySem.W.Frag} {mg : Str → Option Value} {h : Heap} {fa c P : Addr} {k n : Nat} {x : Str} {st : Stmt} {C : Nat → Addr} {M : FN} {nm : Str} (X : K.In h) (G : h.Ns mainGlobals mg) (hfa : mg nm = some (.ref fa)) (L : LawIs K nm st c P) (hP : h.get? P = some { cls := .none, data := .fields #[] })
    (hb : ∀ (kV doc pm : Value) (an : Option Addr) (cdv ct : Value) (us : List Value), us.length = 1 → bindArgs (PySem.W.fnOf nm nm (defArgs st) (defBody st) (defScope st) .none kV doc pm an cdv ct) ⟨us, []⟩ = pure ([x].zip us))
    (hF : ∀ (f : Addr) (fd : FuncData) (base : Heap), Def K mg nm st [x] f fd → fd.code = .ref c → K.In base → base.Ns mainGlobals mg → LamX.TabB base mg c P → FnOk l.prog w K mg base (L2N.CX l.prog w) k f fd [x] (spM K (lamT P) C 1 M))
    (hM : ∀ ns : List Int, ns.length ≤ n → (∀ z ∈ ns, Builtin.Int.intBits z ≤ 1048576) → ∃ st', M [.kl (ns.map .int)] [] = .ok (.bl true) st') : LamX.LawAtS l w K (L2N.CX l.prog w) k n x mg fa h := by
  obtain ⟨f, oc, od, an, kV, doc, pm, ct, osl, a, lk, cc, kp⟩ := L.ex
  have e := hfa.symm.trans (PySem.W.mg_of X G a)
  cases e
  have Fm := fun_mk (st := st) lk cc kp
  have Df : Def K mg nm st [x] fa (PySem.W.fnOf nm nm (defArgs st) (defBody st) (defScope st) .none kV doc pm an (.ref c) ct) := ⟨Fm, hfa, Fm.binds hb⟩
  refine ⟨_, [(c, P)], spM K (lamT P) C 1 M, fun p hp => ?_, fun p hp => ?_, fun p hp => ?_, fun s u => .of_eq (hb kV doc pm an (.ref c) ct [u] rfl), fun H a ns h1 h2 h3 h4 => ?_, fun base hK hN hT => hF fa _ base Df rfl hK hN (hT (c, P) List.mem_cons_self)⟩
  · rw [List.mem_singleton.mp hp]
    exact hP
  · rw [List.mem_singleton.mp hp]
    exact L.no
  · rw [List.mem_singleton.mp hp]
    exact PySem.W.codeHd_of_K X L.hd
  · obtain ⟨st', e⟩ := hM ns h1 h2
    have hq : SqF K H [] a (ns.map V.int) := by
      rcases h4 with (z | ⟨o, z⟩) | z
      · exact .inl (.inr ⟨z, fun m => nomatch m⟩)
      · exact .inl (.inl ⟨o, z⟩)
      · exact .inr z
    refine ⟨[.kl (ns.map .int)], [], [], rfl, .cons (.kl hq (evs_map_int ns)) .nil, ⟨fun p hp => ?_, rfl, List.nodup_nil, fun i a c z => by cases z⟩, ?_⟩
    · rw [List.mem_singleton.mp hp]
      exact LamX.TabS.nil (h3 (c, P) List.mem_cons_self)
    · rw [e]
      intro ρ' H' v f ev es
      cases ev
      rfl
end Dt
namespace Dt
theorem cOf_inj {l : List PySem.Addr} (nd : l.Nodup) {i j : Nat} (hi : i < l.length) (hj : j < l.length) (e : cOf l i = cOf l j) : i = j := by
  unfold cOf at e
  rw [List.getD_eq_getElem?_getD, List.getD_eq_getElem?_getD, List.getElem?_eq_getElem hi, List.getElem?_eq_getElem hj] at e
  exact (List.getElem_inj nd).mp e
theorem errs_of {K : PySem.W.Frag} {cb : PySem.Addr} {c0 c1 c2 c3 c4 c5 : PySem.Addr} (e0 : ErrIs K "InvalidChain" cb c0) (e1 : ErrIs K "InvalidNumber" cb c1) (e2 : ErrIs K "InvalidStep" cb c2) (e3 : ErrIs K "InvalidText" cb c3) (e4 : ErrIs K "TooMany" cb c4) (e5 : ErrIs K "NothingToUndo" cb c5) :
    ∀ n z, kd n = some z → ErrIs K z cb (cOf [c0, c1, c2, c3, c4, c5] n) := by
  intro n z hk
  have hn : n < 6 := (List.getElem?_eq_some_iff.mp hk).1
  have e : n = 0 ∨ n = 1 ∨ n = 2 ∨ n = 3 ∨ n = 4 ∨ n = 5 := by omega
  rcases e with rfl | rfl | rfl | rfl | rfl | rfl <;> cases hk <;> assumption
/-- no error is another -/
theorem apart_of {K : PySem.W.Frag} {l : List PySem.Addr} (hl : l.length = 6) (nd : l.Nodup) (h : ∀ i, i < 6 → ∀ j, j < 6 → i ≠ j → PySem.W.subIn K (.ref (cOf l i)) (.ref (cOf l j)) = some false) :
    ∀ i j, i < 6 → j < 6 → i ≠ j → PySem.W.subIn K (.ref (cOf l i)) (.ref (cOf l j)) = some false ∧ cOf l i ≠ cOf l j := fun i j hi hj hne => ⟨h i hi j hj hne, fun e => hne (cOf_inj nd (by omega) (by omega) e)⟩
end Dt

set_option Elab.async false
set_option linter.all false
set_option maxRecDepth 100000
set_option maxHeartbeats 2000000
/-! f-strings: parts in a row. -/
namespace Dn
open PySem PySem.Spec PyProof.Rows L2
def fmtD : F1 := fun x st => match x with
  | .str y => if y.length ≤ sizeLine then .ok (.str y) st else .no
  | .int i => if i.natAbs.log2 < 1920 then .ok (.str (toString i)) st else .no
  | _ => .no
def dJs : List ME → Str → ME
  | [], acc => fun _ st => .ok (.str acc) st
  | m :: ms, acc => fun env st => (m env st).bind fun x st => match x with
    | .str y => if (acc ++ y).length ≤ sizeLine then dJs ms (acc ++ y) env st else .no
    | _ => .no
section
variable {X : Cx} {G : Gx}
theorem se_fmt {e : Expr} {te : TE} {me : ME} {pos : Pos} (he : SE X G e te me) : SE X G (.FormattedValue e (-1) none pos) (tFmt te) (dUn fmtD me) := ⟨pe_fmt he.pe, fun σ env ρ st H Q ev es h => by
  refine he.sd σ env ρ st H _ ev es (h.bind fun x st1 ρ1 H1 vx f1 e1 es1 h1 => ?_)
  unfold fmtD at h1
  cases e1 with
  | str y =>
    dsimp only at h1
    split at h1
    · rename_i hy
      exact .inl ⟨y, rfl, hy, h1.now (.str y) es1⟩
    · exact h1.elim
  | int i =>
    dsimp only at h1
    split at h1
    · rename_i hi
      exact .inr ⟨i, rfl, hi, h1.now (.str _) es1⟩
    · exact h1.elim
  | _ => exact h1.elim⟩
/-- the parts' judgements -/
structure SJ (X : Cx) (G : Gx) (es : List Expr) (ts : List TE) (ms : List ME) : Prop where
  pe : PJ X es ts
  sd : ∀ (acc : Str) (σ : L2.St) (env : Ev) (ρ : List Addr) (st : Sto) (H : Hp) (Q : VK), EVo X.K H ρ env σ → ES X.K G.T H ρ st → PostE X.K G H ρ Q (dJs ms acc env st) → tJs ts acc σ H fun out H1 => Q (.str out) H1
theorem sj_nil : SJ X G [] [] [] := ⟨.nil, fun acc σ env ρ st H Q ev es h => h.now (.str acc) es⟩
theorem sj_cons {e : Expr} {te : TE} {me : ME} {es : List Expr} {ts : List TE} {ms : List ME} (he : SE X G e te me) (hr : SJ X G es ts ms) : SJ X G (e :: es) (te :: ts) (me :: ms) := ⟨.cons he.pe hr.pe, fun acc σ env ρ st H Q ev es h => by
  refine he.sd σ env ρ st H _ ev es (h.bind fun x st1 ρ1 H1 vx f1 e1 es1 h1 => ?_)
  cases e1 with
  | str y =>
    dsimp only at h1
    split at h1
    · rename_i hy
      exact ⟨y, rfl, hy, hr.sd (acc ++ y) σ env ρ1 st1 H1 Q (ev.mono f1) es1 h1⟩
    · exact h1.elim
  | _ => exact h1.elim⟩
theorem se_joined {v1 v2 : Expr} {rest : List Expr} {ts : List TE} {ms : List ME} {pos : Pos} (h : SJ X G (v1 :: v2 :: rest) ts ms) : SE X G (.JoinedStr (v1 :: v2 :: rest) pos) (fun σ H Q => tJs ts Str.empty σ H fun out H1 => Q (.str out) H1) (dJs ms Str.empty) :=
  ⟨pe_joined h.pe, fun σ env ρ st H Q ev es q => h.sd Str.empty σ env ρ st H Q ev es q⟩
theorem se_joined1 {e : Expr} {te : TE} {me : ME} {pos : Pos} (h : SE X G e te me) : SE X G (.JoinedStr [e] pos) te me := ⟨pe_joined1 h.pe, h.sd⟩
end
end Dn

set_option Elab.async false
set_option linter.all false
set_option maxRecDepth 100000
set_option maxHeartbeats 2000000
/-! Dicts with flat keys in the store. -/
namespace Dn
open PySem PySem.Spec PyProof.Rows L2
section
variable {K : PySem.W.Frag} {T : List (Addr × Str)} {H : Hp} {ρ : List Addr} {st : Sto}
theorem tabs_dk {p : Addr} {xs ys : List (Key × V)} (hp : H p = some (.dK xs)) (t : LamX.Tabs T H) : LamX.Tabs T (upd H p (.dK ys)) := fun q hq => by
  obtain ⟨ps, h1, h2, h3⟩ := t q hq
  have ne : ∀ b o, H b = some o → (∀ zs, o ≠ .dK zs) → upd H p (.dK ys) b = some o := fun b o h n => by
    rw [upd_ne (fun z => n xs (by rw [z, hp] at h; exact (Option.some.inj h).symm))]
    exact h
  refine ⟨ps, ne _ _ h1 (fun _ z => nomatch z), h2, fun pos cv hc => ?_⟩
  obtain ⟨c, e1, e2⟩ := h3 pos cv hc
  exact ⟨c, e1, ne _ _ e2 (fun _ z => nomatch z)⟩
theorem Fr.writeD {p : Addr} {xs ys : List (Key × V)} (hm : p ∈ ρ) (hp : H p = some (.dK xs)) : Fr H ρ (upd H p (.dK ys)) ρ where
  pre := ⟨[], (List.append_nil _).symm⟩
  keep := fun a u h n _ => by rw [upd_ne (show a ≠ p from fun e => n (by rw [e]; exact hm))]; exact h
  tup := fun a u h => by rw [upd_ne (ne_of h hp (fun z => nomatch z))]; exact h
  frz := fun a u z h => by rw [upd_ne (ne_of h hp (fun z => nomatch z))]; exact h
  new := fun _ h n => absurd h n
theorem ES.writeD {p : Addr} {i : Nat} {xs vvs : List (Key × V)} {kvs : List (Key × D)} (e : ES K T H ρ st) (hi : ρ[i]? = some p) (hp : H p = some (.dK xs)) (hk : kvs.map (·.1) = vvs.map (·.1)) (h : EVs K H ρ (kvs.map (·.2)) (vvs.map (·.2))) : ES K T (upd H p (.dK vvs)) ρ (st.set i (.dct kvs)) where
  tabs := tabs_dk hp e.tabs
  len := by rw [List.length_set]; exact e.len
  nd := e.nd
  cell := fun j a c h1 h2 => by
    have Fw : Fr H ρ (upd H p (.dK vvs)) ρ := Fr.writeD (List.mem_of_getElem? hi) hp
    by_cases hj : j = i
    · subst hj
      rw [hi] at h1
      cases h1
      have hl : j < st.length := by rw [← e.len]; exact (List.getElem?_eq_some_iff.mp hi).1
      rw [List.getElem?_set_self hl] at h2
      cases h2
      exact ⟨vvs, upd_same, hk, h.mono Fw⟩
    · rw [List.getElem?_set_ne (Ne.symm hj)] at h2
      have hap : a ≠ p := fun z => hj (nd_get e.nd (z ▸ h1) hi)
      exact (e.cell j a c h1 h2).mono Fw fun o h _ => by rw [upd_ne hap]; exact h
theorem ES.layD {p : Addr} {kvs : List (Key × D)} {vvs : List (Key × V)} (e : ES K T H ρ st) (hp : H p = none) (hk : kvs.map (·.1) = vvs.map (·.1)) (h : EVs K H ρ (kvs.map (·.2)) (vvs.map (·.2))) : ES K T (upd H p (.dK vvs)) (ρ ++ [p]) (st ++ [.dct kvs]) where
  tabs := tabs_of (keepN hp) e.tabs
  len := by rw [List.length_append, List.length_append, e.len]; rfl
  nd := by
    rw [List.nodup_append]
    refine ⟨e.nd, by simp, fun a ha b hb z => ?_⟩
    rw [List.mem_singleton.mp hb] at z
    exact e.fresh hp (z ▸ ha)
  cell := fun i a c h1 h2 => by
    have Fl : Fr H ρ (upd H p (.dK vvs)) (ρ ++ [p]) := Fr.laidS hp
    by_cases hi : i < ρ.length
    · rw [List.getElem?_append_left hi] at h1
      rw [List.getElem?_append_left (by rw [← e.len]; exact hi)] at h2
      exact (e.cell i a c h1 h2).mono Fl fun o h _ => by rw [upd_ne (ne_of_none h hp)]; exact h
    · have hl : i = ρ.length := by
        have := (List.getElem?_eq_some_iff.mp h1).1
        rw [List.length_append, List.length_singleton] at this
        omega
      subst hl
      rw [List.getElem?_append_right (Nat.le_refl _), Nat.sub_self] at h1
      rw [e.len, List.getElem?_append_right (Nat.le_refl _), Nat.sub_self] at h2
      cases h1
      cases h2
      exact ⟨vvs, upd_same, hk, h.mono Fl⟩
end
/-! ### keys -/
def D.key : D → Option Key
  | .int i => some (.inl i)
  | .str s => some (.inr s)
  | _ => none
theorem key_of {K : PySem.W.Frag} {H : Hp} {ρ : List Addr} {d : D} {v : V} {k : Key} (e : EV K H ρ d v) (h : d.key = some k) : v = kV k := by
  cases e with
  | int i => cases h; rfl
  | str s => cases h; rfl
  | _ => cases h
def getK (kvs : List (Key × D)) (k : Key) : Option D := (kvs.find? fun kv => decide (kv.1 = k)).map (·.2)
def setK (kvs : List (Key × D)) (k : Key) (d : D) : List (Key × D) := if (kvs.any fun kv => decide (kv.1 = k)) = true then kvs.map (fun kv => if kv.1 = k then (kv.1, d) else kv) else kvs ++ [(k, d)]
section
variable {K : PySem.W.Frag} {H : Hp} {ρ : List Addr}
theorem getK_of {k : Key} : ∀ {kvs : List (Key × D)} {vvs : List (Key × V)}, kvs.map (·.1) = vvs.map (·.1) → EVs K H ρ (kvs.map (·.2)) (vvs.map (·.2)) →
    (getK kvs k = none ∧ valV vvs k = none) ∨ ∃ d v, getK kvs k = some d ∧ valV vvs k = some v ∧ EV K H ρ d v
  | [], [], _, _ => .inl ⟨rfl, rfl⟩
  | [], _ :: _, e, _ => by cases e
  | _ :: _, [], e, _ => by cases e
  | (k1, d) :: kvs, (k2, v) :: vvs, e, h => by
    rw [List.map_cons, List.map_cons] at e h
    have e1 : k1 = k2 := (List.cons.inj e).1
    subst e1
    cases h with
    | cons h1 h2 =>
      by_cases q : k1 = k
      · refine .inr ⟨d, v, ?_, valV_pos q, h1⟩
        simp [getK, List.find?_cons, q]
      · have ih := getK_of (k := k) (List.cons.inj e).2 h2
        have g1 : getK ((k1, d) :: kvs) k = getK kvs k := by simp [getK, List.find?_cons, q]
        rw [g1, valV_neg (p := (k1, v)) q]
        exact ih
theorem any_keys {k : Key} : ∀ {kvs : List (Key × D)} {vvs : List (Key × V)}, kvs.map (·.1) = vvs.map (·.1) → (kvs.any fun kv => decide (kv.1 = k)) = vvs.any fun kv => decide (kv.1 = k)
  | [], [], _ => rfl
  | [], _ :: _, e => by cases e
  | _ :: _, [], e => by cases e
  | (k1, d) :: kvs, (k2, v) :: vvs, e => by
    rw [List.map_cons, List.map_cons] at e
    have e1 : k1 = k2 := (List.cons.inj e).1
    subst e1
    rw [List.any_cons, List.any_cons, any_keys (List.cons.inj e).2]
theorem map_keys {k : Key} {d : D} {v : V} (hd : EV K H ρ d v) : ∀ {kvs : List (Key × D)} {vvs : List (Key × V)}, kvs.map (·.1) = vvs.map (·.1) → EVs K H ρ (kvs.map (·.2)) (vvs.map (·.2)) →
    (kvs.map fun kv => if kv.1 = k then (kv.1, d) else kv).map (·.1) = (vvs.map fun kv => if kv.1 = k then (kv.1, v) else kv).map (·.1) ∧ EVs K H ρ ((kvs.map fun kv => if kv.1 = k then (kv.1, d) else kv).map (·.2)) ((vvs.map fun kv => if kv.1 = k then (kv.1, v) else kv).map (·.2))
  | [], [], _, _ => ⟨rfl, .nil⟩
  | [], _ :: _, e, _ => by cases e
  | _ :: _, [], e, _ => by cases e
  | (k1, d1) :: kvs, (k2, v1) :: vvs, e, h => by
    rw [List.map_cons, List.map_cons] at e h
    have e1 : k1 = k2 := (List.cons.inj e).1
    subst e1
    cases h with
    | cons h1 h2 =>
      obtain ⟨i1, i2⟩ := map_keys (k := k) hd (List.cons.inj e).2 h2
      simp only [List.map_cons]
      by_cases q : k1 = k
      · simp only [q, if_true]
        exact ⟨by rw [i1], .cons hd i2⟩
      · simp only [q, if_false]
        exact ⟨by rw [i1], .cons h1 i2⟩
theorem setK_of {k : Key} {d : D} {v : V} {kvs : List (Key × D)} {vvs : List (Key × V)} (hd : EV K H ρ d v) (e : kvs.map (·.1) = vvs.map (·.1)) (h : EVs K H ρ (kvs.map (·.2)) (vvs.map (·.2))) :
    (setK kvs k d).map (·.1) = (putK vvs k v).map (·.1) ∧ EVs K H ρ ((setK kvs k d).map (·.2)) ((putK vvs k v).map (·.2)) := by
  unfold setK putK
  rw [any_keys e]
  by_cases q : (vvs.any fun kv => decide (kv.1 = k)) = true
  · rw [if_pos q, if_pos q]
    exact map_keys hd e h
  · rw [if_neg q, if_neg q, List.map_append, List.map_append, List.map_append, List.map_append]
    exact ⟨by rw [e]; rfl, h.append (.cons hd .nil)⟩
end
/-! ### d.get(k) -/
def dGet1 (a b : ME) : ME := fun env st => (a env st).bind fun o st => match o with
  | .ref n => match st[n]? with
    | some (.dct _) => (b env st).bind fun y st => match y.key, st[n]? with
      | some k, some (.dct kvs) => .ok ((getK kvs k).getD .non) st
      | _, _ => .no
    | _ => .no
  | _ => .no
section
variable {X : Cx} {G : Gx} {o e : Expr} {to te : TE} {mo me : ME} {apos cpos : Pos}
theorem se_get1 (hu : X.A.units + 64 < cLine) (ho : SE X G o to mo) (he : SE X G e te me) (m : M1 X o "get" apos e cpos) : SE X G (.Call (.Attribute o "get" apos) [e] [] cpos) (tDGet1 to te) (dGet1 mo me) := ⟨pe_dget1 (by omega) ho.pe he.pe m, fun σ env ρ st H Q ev es h => by
  refine ho.sd σ env ρ st H _ ev es (h.bind fun x st1 ρ1 H1 vx f1 e1 es1 h1 => ?_)
  cases e1 with
  | @ref n a hn =>
    dsimp only at h1
    split at h1
    · rename_i kvs0 q0
      obtain ⟨vv0, g0, _, _⟩ := es1.cell n a _ hn q0
      refine ⟨a, rfl, .inl ⟨vv0, .inl g0⟩, ?_⟩
      refine he.sd σ env ρ1 st1 H1 _ (ev.mono f1) es1 (h1.bind fun y st2 ρ2 H2 vy f2 e2 es2 h2 => ?_)
      split at h2
      · rename_i k kvs hk q
        obtain ⟨vvs, g1, g2, g3⟩ := es2.cell n a _ (f2.get hn) q
        have ek := key_of e2 hk
        subst ek
        refine ⟨valV vvs k, DGet.k g1, ?_⟩
        rcases getK_of (k := k) g2 g3 with ⟨z1, z2⟩ | ⟨d, v, z1, z2, z3⟩
        · rw [z1] at h2
          rw [z2]
          exact h2.now .non es2
        · rw [z1] at h2
          rw [z2]
          exact h2.now z3 es2
      · exact h2.elim
    · exact h1.elim
  | _ => exact h1.elim⟩
end
end Dn
namespace Dn
open PySem PySem.Spec PyProof.Rows L2
/-! ### {k: v for ..} -/
def dcGo (fd : Feed) (vs : List Nat) (g : MG) (t : MT) (k v : ME) (loc : Nat) : Nat → Nat → Ev → Sto → R D
  | 0, i, _, st => match fd i st with
    | some none => .ok (.ref loc) st
    | _ => .no
  | n + 1, i, env, st => match fd i st with
    | some none => .ok (.ref loc) st
    | some (some d) => (g d env st).noEr.bind fun env1 st => (t env1 st).noEr.bind fun b st => if b = true then (k env1 st).noEr.bind fun y st => (v env1 st).noEr.bind fun z st => match y.key, st[loc]? with
        | some key, some (.dct acc) => if acc.length < 100000 then dcGo fd vs g t k v loc n (i + 1) env (st.set loc (.dct (setK acc key z))) else .no
        | _, _ => .no
      else dcGo fd vs g t k v loc n (i + 1) env st
    | none => .no
def dDc (it : MI) (vs : List Nat) (g : MG) (t : MT) (k v : ME) : ME := fun env st => (it env st).bind fun f st => dcGo f.1 vs g t k v st.length f.2 0 (wipeD env vs) (st ++ [.dct []])
section
variable {X : Cx} {G : Gx} {tg : Expr} {pos : Pos}
theorem sd_dc {wi : TI} {mi : MI} {g : TG} {mg : MG} {tt : TT} {mt : MT} {tk tv : TE} {mk mv : ME} {vs : List Nat} {K : PySem.W.Frag}
    (hi : ∀ (σ : L2.St) (env : Ev) (ρ : List Addr) (st : Sto) (H : Hp) (Q : It → Hp → Prop), EVo K H ρ env σ → ES K G.T H ρ st → Post (fun H ρ (f : Feed × Nat) J => Live K G.T H ρ J f.1) K G.T G.C H ρ Q G.E (mi env st) → wi σ H Q)
    (hg : ∀ (d : D) (v : V) (σ : L2.St) (env : Ev) (ρ : List Addr) (st : Sto) (H : Hp) (Q : L2.St → Hp → Prop), EV K H ρ d v → EVo K H ρ env σ → ES K G.T H ρ st → Post (fun H ρ env σ' => EVo K H ρ env σ' ∧ L2.wipe σ' vs = L2.wipe σ vs) K G.T G.C H ρ Q L2.E0 (mg d env st) → g v σ H Q)
    (ht : ∀ (σ : L2.St) (env : Ev) (ρ : List Addr) (st : Sto) (H : Hp) (Q : Bool → Hp → Prop), EVo K H ρ env σ → ES K G.T H ρ st → PostT K G.nox H ρ Q (mt env st) → tt σ H Q)
    (hk : ∀ (σ : L2.St) (env : Ev) (ρ : List Addr) (st : Sto) (H : Hp) (Q : VK), EVo K H ρ env σ → ES K G.T H ρ st → PostE K G.nox H ρ Q (mk env st) → tk σ H Q)
    (he : ∀ (σ : L2.St) (env : Ev) (ρ : List Addr) (st : Sto) (H : Hp) (Q : VK), EVo K H ρ env σ → ES K G.T H ρ st → PostE K G.nox H ρ Q (mv env st) → tv σ H Q)
    (σ : L2.St) (env : Ev) (ρ : List Addr) (st : Sto) (H : Hp) (Q : VK) (ev : EVo K H ρ env σ) (es : ES K G.T H ρ st) (h : PostE K G H ρ Q (dDc mi vs mg mt mk mv env st)) : tDc wi g tt tk tv vs σ H Q := by
  refine hi σ env ρ st H _ ev es (h.bind fun f st1 ρ1 H1 J f1 L es1 q => ?_)
  obtain ⟨fd, n⟩ := f
  intro Dl hD
  have FD : Fr H1 ρ1 (upd H1 Dl (.dK [])) (ρ1 ++ [Dl]) := Fr.laidS hD
  have hloc : (ρ1 ++ [Dl])[st1.length]? = some Dl := es1.ref Dl
  refine ⟨fun i m H => ∃ ρ st, Fr H1 ρ1 H ρ ∧ EVo K H ρ (wipeD env vs) (L2.wipe σ vs) ∧ ES K G.T H ρ st ∧ ρ[st1.length]? = some Dl ∧ PostE K G H ρ Q (dcGo fd vs mg mt mk mv st1.length m i (wipeD env vs) st),
    ⟨n, ρ1 ++ [Dl], st1 ++ [.dct []], FD, ((ev.mono f1).mono FD).wipe vs, es1.layD hD rfl .nil, hloc, Post.shift FD q⟩, ?_⟩
  rintro i m H ⟨ρ, st, f, ev, es, hl, h⟩
  have fin : ∀ o, fd i st = some o → (o = none → PostE K G H ρ Q (.ok (.ref st1.length) st)) → o = none → (J.stop i H ∧ Q (.ref Dl) H) := fun o e hh ho => by
    subst ho
    exact ⟨L.stop H ρ st i f es e, (hh rfl).now (.ref hl) es⟩
  cases m with
  | zero =>
    unfold dcGo at h
    cases e : fd i st with
    | none => rw [e] at h; exact h.elim
    | some o =>
      rw [e] at h
      cases o with
      | none => exact .inl (fin none e (fun _ => h) rfl)
      | some d => exact h.elim
  | succ m =>
    unfold dcGo at h
    cases e : fd i st with
    | none => rw [e] at h; exact h.elim
    | some o =>
      rw [e] at h
      cases o with
      | none => exact .inl (fin none e (fun _ => h) rfl)
      | some d =>
        obtain ⟨hgo, hy⟩ := L.go H ρ st i d f es e
        refine .inr ⟨hgo, fun H' => ∃ ρ st, Fr H1 ρ1 H' ρ ∧ EVo K H' ρ (wipeD env vs) (L2.wipe σ vs) ∧ ES K G.T H' ρ st ∧ ρ[st1.length]? = some Dl ∧ PostE K G H' ρ Q (dcGo fd vs mg mt mk mv st1.length m (i + 1) (wipeD env vs) st), fun H' w => ⟨m, Nat.lt_succ_self m, w⟩, fun x H' y => ?_⟩
        obtain ⟨f2, e2, es2⟩ := hy x H' y
        have q2 := Post.shift f2 h
        dsimp only at q2
        have ww : L2.wipe (L2.wipe σ vs) vs = L2.wipe σ vs := by
          have gen : ∀ (us ws : List Nat), (∀ u ∈ us, u ∈ ws) → L2.wipe (L2.wipe σ us) ws = L2.wipe σ ws := by
            intro us
            induction us with
            | nil => intro ws _; rfl
            | cons u us ih =>
              intro ws hw
              show L2.wipe ((L2.wipe σ us).set u none) ws = _
              rw [wipe_set (hw u List.mem_cons_self)]
              exact ih ws fun z hz => hw z (List.mem_cons_of_mem _ hz)
          exact gen vs vs fun _ h => h
        refine hg d x _ (wipeD env vs) ρ st H' _ e2 (ev.mono f2) es2 (Post.noEr (q2.bind fun env3 st3 ρ3 H3 σ3 f3 r3 es3 q3 => ?_))
        obtain ⟨ev3, w3⟩ := r3
        refine ⟨by rw [w3, ww], ?_⟩
        refine ht σ3 env3 ρ3 st3 H3 _ ev3 es3 (Post.noEr (q3.bind fun b st4 ρ4 H4 b' f4 e4 es4 q4 => ?_))
        subst e4
        have f24 := f2.trans (f3.trans f4)
        cases b with
        | false => exact ⟨ρ4, st4, f.trans f24, ev.mono f24, es4, f24.get hl, q4⟩
        | true =>
          dsimp only
          rw [if_pos rfl]
          rw [if_pos rfl] at q4
          refine hk σ3 env3 ρ4 st4 H4 _ (ev3.mono f4) es4 (Post.noEr (q4.bind fun y st5 ρ5 H5 vy f5 e5 es5 q5 => ?_))
          refine he σ3 env3 ρ5 st5 H5 _ (ev3.mono (f4.trans f5)) es5 (Post.noEr (q5.bind fun z st6 ρ6 H6 vz f6 e6 es6 q6 => ?_))
          have f26 := (f24.trans f5).trans f6
          split at q6
          · rename_i key acc hkey ec
            by_cases hz : acc.length < 100000
            · rw [if_pos hz] at q6
              obtain ⟨vacc, g1, g2, g3⟩ := es6.cell st1.length Dl _ (f26.get hl) ec
              have ey := key_of (e5.mono f6) hkey
              have hlen : vacc.length = acc.length := by
                have := congrArg List.length g2
                simpa using this.symm
              obtain ⟨s1, s2⟩ := setK_of (k := key) e6 g2 g3
              have fw : Fr H6 ρ6 (upd H6 Dl (.dK (putK vacc key vz))) ρ6 := Fr.writeD (List.mem_of_getElem? (f26.get hl)) g1
              exact ⟨vacc, key, ey, g1, by rw [hlen]; exact Nat.lt_of_lt_of_le hz line5, ρ6, _, f.trans (f26.trans fw), ev.mono (f26.trans fw), es6.writeD (f26.get hl) g1 s1 s2, (f26.trans fw).get hl, Post.shift fw q6⟩
            · rw [if_neg hz] at q6
              exact q6.elim
          · exact q6.elim
theorem se_dc {kx vx iter : Expr} {ifs : List Expr} {scope : Scope} {own : List (Str × Nat)} {wi : TI} {mi : MI} {g : TG} {mg : MG} {mt : MT} {mk mv : ME} (hc : X.calm = true) (hN : X.N.Nodup) (hi : SI X G tg iter wi mi) (ok : BlkOk X.N X.env.scope scope own)
    (hg : ∀ (s : Shared) (H : Hp) (C : Addr) (cl : List (Str × Addr)) (fp : List Addr), SGO (X.blk s H scope (compEnvC scope cl C X.env) fp) G.nox (own.map (·.2)) tg g mg)
    (ht : ∀ (s : Shared) (H : Hp) (C : Addr) (cl : List (Str × Addr)) (fp : List Addr), ∃ tt, STs (X.blk s H scope (compEnvC scope cl C X.env) fp) G.nox ifs tt mt)
    (hk : ∀ (s : Shared) (H : Hp) (C : Addr) (cl : List (Str × Addr)) (fp : List Addr), ∃ te, SE (X.blk s H scope (compEnvC scope cl C X.env) fp) G.nox kx te mk)
    (he : ∀ (s : Shared) (H : Hp) (C : Addr) (cl : List (Str × Addr)) (fp : List Addr), ∃ te, SE (X.blk s H scope (compEnvC scope cl C X.env) fp) G.nox vx te mv) (hs : ∀ x, foldedSetIterable iter X.env x = pure x := by intro _; rfl) :
    SE X G (.DictComp kx vx [⟨tg, iter, ifs, 0⟩] scope pos) (tDc wi g (canT X.K G.nox mt) (canE X.K G.nox mk) (canE X.K G.nox mv) (own.map (·.2))) (dDc mi (own.map (·.2)) mg mt mk mv) :=
  ⟨pe_dc hc hN hi.pe ok (fun s H C cl fp => (hg s H C cl fp).pe) (fun s H C cl fp => let ⟨_, z⟩ := ht s H C cl fp; z.can) (fun s H C cl fp => let ⟨_, z⟩ := hk s H C cl fp; z.can) (fun s H C cl fp => let ⟨_, z⟩ := he s H C cl fp; z.can) hs, sd_dc hi.sd
    (fun d v σ env ρ st H Q => (hg X.s_0 H 0 [] []).sd d v σ env ρ st H Q) (fun σ env ρ st H Q h1 h2 h3 => ⟨env, ρ, st, h1, h2, h3⟩) (fun σ env ρ st H Q h1 h2 h3 => ⟨env, ρ, st, h1, h2, h3⟩) (fun σ env ρ st H Q h1 h2 h3 => ⟨env, ρ, st, h1, h2, h3⟩)⟩
end
end Dn

set_option Elab.async false
set_option linter.all false
set_option maxRecDepth 100000
set_option maxHeartbeats 2000000
/-! A text repeated. -/
namespace Dn
open PySem PySem.Spec PyProof.Rows L2
theorem line6 : 1000000 ≤ sizeLine := by rw [sizeLine_eq]; decide
theorem small_len {n : Nat} (h : n ≤ 1000000) : PySem.Builtin.Str.tooLong n = false := by
  unfold PySem.Builtin.Str.tooLong
  have := line6
  exact decide_eq_false (by omega)
def repS (s : Str) (k : Int) : Str := ⟨(List.replicate k.toNat s.cps).foldl (· ++ ·) #[]⟩
def rRepS : R2 := fun x y H Q => ∃ (s : Str) (k : Int), x = .str s ∧ y = .int k ∧ 2 ≤ k ∧ k ≤ 100000 ∧ 0 < s.length ∧ s.length ≤ 1000 ∧ s.length * k.toNat ≤ 1000000 ∧ (repS s k).length ≤ sizeLine ∧ Q (.str (repS s k)) H
theorem op_repS {X : Cx} : OpR X (binaryOp .Mult) rRepS := by
  intro pins s σ H x y v u Q I rx ry h
  obtain ⟨z, k, rfl, rfl, k2, k5, l0, l3, hl, hz, q⟩ := h
  obtain ⟨t, rfl⟩ := rx
  obtain ⟨t', rfl⟩ := ry
  have h1 : decide (k < -(2 ^ 63 : Int)) = false := decide_eq_false (by omega)
  have h2 : decide (k ≥ (2 ^ 63 : Int)) = false := decide_eq_false (by omega)
  refine P.mul_str (by rw [h1, h2]; rfl) (fun _ _ z2 => ?_) (fun _ _ => ?_) ?_
  · have a1 : (1000 : Int) ≤ (2 ^ 63 - 1) / k := by
      rw [Int.le_ediv_iff_mul_le (by omega)]
      omega
    omega
  · exact small_len (by omega)
  · rw [if_neg (by omega : ¬ k < 1)]
    have e1 : (k == 1) = false := by
      rw [beq_eq_false_iff_ne]
      omega
    have e2 : (z.length == 0) = false := by
      rw [beq_eq_false_iff_ne]
      omega
    rw [e1, e2]
    exact ⟨hz, .str (repS z k), H, I.tok _, ⟨_, rfl⟩, q⟩
def repD : F2 := fun x y st => match x, y with
  | .str s, .int k => if 2 ≤ k ∧ k ≤ 100000 ∧ 0 < s.length ∧ s.length ≤ 1000 ∧ s.length * k.toNat ≤ 1000000 ∧ (repS s k).length ≤ sizeLine then .ok (.str (repS s k)) st else .no
  | _, _ => .no
theorem os_rep {K : PySem.W.Frag} {G : Gx} : OpS K G rRepS repD := by
  intro x y vx vy ρ st H Q ex ey es h
  cases ex with
  | str s =>
    cases ey with
    | int k =>
      simp only [repD] at h
      split at h
      · rename_i hc
        obtain ⟨c1, c2, c3, c4, c5, c6⟩ := hc
        exact ⟨s, k, rfl, rfl, c1, c2, c3, c4, c5, c6, h.now (.str _) es⟩
      · exact h.elim
    | _ => exact h.elim
  | _ => cases ey <;> exact h.elim
end Dn

set_option Elab.async false
set_option linter.all false
set_option maxRecDepth 100000
set_option maxHeartbeats 2000000
/-! A comprehension that is bound to a name. -/
namespace Dn
open PySem PySem.Spec PyProof.Rows L2
section
variable {X : Cx} {G : Gx} {tg iter : Expr} {ifs : List Expr} {scope : Scope} {own : List (Str × Nat)} {pos spos py : Pos} {y : Str}
theorem ps_setDc {i : Nat} {kx vx : Expr} {wi : TI} {g : TG} {tt : TT} {tk tv : TE} (hc : X.calm = true) (hN : X.N.Nodup) (hy : X.N[i]? = some y) (hyl : X.env.scope.names.lookup y = some .local)
    (hsw : swapsWith (.DictComp kx vx [⟨tg, iter, ifs, 0⟩] scope pos) (some (.Name y py)) spos.line X.env = pure true) (hi : PI X tg iter wi) (ok : BlkOk X.N X.env.scope scope own)
    (hg : ∀ (s : Shared) (H : Hp) (C : Addr) (cl : List (Str × Addr)) (fp : List Addr), PG (X.blk s H scope (compEnvC scope cl C X.env) fp) tg g) (ht : ∀ (s : Shared) (H : Hp) (C : Addr) (cl : List (Str × Addr)) (fp : List Addr), PTs (X.blk s H scope (compEnvC scope cl C X.env) fp) ifs tt)
    (hk : ∀ (s : Shared) (H : Hp) (C : Addr) (cl : List (Str × Addr)) (fp : List Addr), PE (X.blk s H scope (compEnvC scope cl C X.env) fp) kx tk)
    (he : ∀ (s : Shared) (H : Hp) (C : Addr) (cl : List (Str × Addr)) (fp : List Addr), PE (X.blk s H scope (compEnvC scope cl C X.env) fp) vx tv) (hs : ∀ x, foldedSetIterable iter X.env x = pure x := by intro _; rfl) :
    PS X (.Assign [.Name y py] (.DictComp kx vx [⟨tg, iter, ifs, 0⟩] scope pos) spos) (L2.tAsg (tDc wi g tt tk tv (own.map (·.2))) (gName i)) := by
  refine ⟨fun pins s σ H D I want => ?_⟩
  rw [exec_Assign_Name_used _ _ _ _ hsw]
  refine wpAny_bind (wpAny_standAt (wpAny_bind ?_))
  show wpAny _ X.A (do let _ ← comprehension (.DictComp kx vx [⟨tg, iter, ifs, 0⟩] scope pos) scope X.env (firstIterPos [⟨tg, iter, ifs, 0⟩] pos) newDict false (eval iter X.env) (some (assign (.Name y py) X.env))) _ _ s
  have h : tDc wi g tt tk tv (own.map (·.2)) σ H (fun x H1 => gName i x σ H1 D.nx) := want
  refine wpAny_bind (thn (dc_core (Qf := fun _ s' => SP X pins D .next s') hc hN I hi ok hg ht hk he hs h fun L C s' m H' I' q hn f => ?_) fun _ s' hq => wpAny_pure (wpAny_pure hq))
  show wpAny _ _ (assign (.Name y py) X.env (.ref L)) _ _ _
  refine wpAny_assign_Name (store_ok2 (v := V.ref L) I' hN hy (.inl hyl) rfl (fun s2 I2 hyp => ?_) (.inr hyl))
  obtain ⟨a, sb, ha⟩ := hyp
  obtain ⟨f0, f1, f2, f3, f4, f5⟩ := f
  have haC : C ≠ a := ha.elim (fun z => by rw [z]; exact f1) fun z e => f4 y a z e.symm
  refine ⟨m, hn.sameBut sb haC, fun h3 sb3 => ?_⟩
  exact ⟨_, H', I2.turned (t' := s2.toks) (fun b o hb e => (sb3.2 b hb).trans e) f0 f1 f3 f4 f5, q⟩
theorem ss_setDc (i : Nat) {kx vx : Expr} {wi : TI} {mi : MI} {g : TG} {mg : MG} {mt : MT} {mk mv : ME} (hc : X.calm = true) (hN : X.N.Nodup) (hi : SI X G tg iter wi mi) (ok : BlkOk X.N X.env.scope scope own)
    (hg : ∀ (s : Shared) (H : Hp) (C : Addr) (cl : List (Str × Addr)) (fp : List Addr), SGO (X.blk s H scope (compEnvC scope cl C X.env) fp) G.nox (own.map (·.2)) tg g mg)
    (ht : ∀ (s : Shared) (H : Hp) (C : Addr) (cl : List (Str × Addr)) (fp : List Addr), ∃ tt, STs (X.blk s H scope (compEnvC scope cl C X.env) fp) G.nox ifs tt mt)
    (hk : ∀ (s : Shared) (H : Hp) (C : Addr) (cl : List (Str × Addr)) (fp : List Addr), ∃ te, SE (X.blk s H scope (compEnvC scope cl C X.env) fp) G.nox kx te mk)
    (he : ∀ (s : Shared) (H : Hp) (C : Addr) (cl : List (Str × Addr)) (fp : List Addr), ∃ te, SE (X.blk s H scope (compEnvC scope cl C X.env) fp) G.nox vx te mv) (hy : X.N[i]? = some y := by rfl) (hyl : X.env.scope.names.lookup y = some .local := by rfl)
    (hsw : swapsWith (.DictComp kx vx [⟨tg, iter, ifs, 0⟩] scope pos) (some (.Name y py)) spos.line X.env = pure true := by rfl) (hs : ∀ x, foldedSetIterable iter X.env x = pure x := by intro _; rfl) :
    SS X G (.Assign [.Name y py] (.DictComp kx vx [⟨tg, iter, ifs, 0⟩] scope pos) spos) (L2.tAsg (tDc wi g (canT X.K G.nox mt) (canE X.K G.nox mk) (canE X.K G.nox mv) (own.map (·.2))) (gName i)) (sAsg (dDc mi (own.map (·.2)) mg mt mk mv) (mName i)) :=
  ⟨ps_setDc hc hN hy hyl hsw hi.pe ok (fun s H C cl fp => (hg s H C cl fp).pe) (fun s H C cl fp => let ⟨_, z⟩ := ht s H C cl fp; z.can) (fun s H C cl fp => let ⟨_, z⟩ := hk s H C cl fp; z.can) (fun s H C cl fp => let ⟨_, z⟩ := he s H C cl fp; z.can) hs,
    fun σ env ρ st H Z ev es h => (se_dc (pos := pos) hc hN hi ok hg ht hk he hs).sd σ env ρ st H _ ev es (h.bindR fun d st1 ρ1 H1 v f e1 es1 q => q ρ1 H1 _ (Fr.refl H1 ρ1) ((ev.mono f).set e1 i) es1)⟩
theorem ss_setLc (i : Nat) {elt : Expr} {wi : TI} {mi : MI} {g : TG} {mg : MG} {mt : MT} {me : ME} (hc : X.calm = true) (hN : X.N.Nodup) (hi : SI X G tg iter wi mi) (ok : BlkOk X.N X.env.scope scope own)
    (hg : ∀ (s : Shared) (H : Hp) (C : Addr) (cl : List (Str × Addr)) (fp : List Addr), SGO (X.blk s H scope (compEnvC scope cl C X.env) fp) G.nox (own.map (·.2)) tg g mg)
    (ht : ∀ (s : Shared) (H : Hp) (C : Addr) (cl : List (Str × Addr)) (fp : List Addr), ∃ tt, STs (X.blk s H scope (compEnvC scope cl C X.env) fp) G.nox ifs tt mt)
    (he : ∀ (s : Shared) (H : Hp) (C : Addr) (cl : List (Str × Addr)) (fp : List Addr), ∃ te, SE (X.blk s H scope (compEnvC scope cl C X.env) fp) G.nox elt te me) (hy : X.N[i]? = some y := by rfl) (hyl : X.env.scope.names.lookup y = some .local := by rfl)
    (hsw : swapsWith (.ListComp elt [⟨tg, iter, ifs, 0⟩] scope pos) (some (.Name y py)) spos.line X.env = pure true := by rfl) (hs : ∀ x, foldedSetIterable iter X.env x = pure x := by intro _; rfl) :
    SS X G (.Assign [.Name y py] (.ListComp elt [⟨tg, iter, ifs, 0⟩] scope pos) spos) (L2.tAsg (tLc wi g (canT X.K G.nox mt) (canE X.K G.nox me) (own.map (·.2))) (gName i)) (sAsg (dLc mi (own.map (·.2)) mg mt me) (mName i)) :=
  ⟨ps_setLc hc hN hy hyl hsw hi.pe ok (fun s H C cl fp => (hg s H C cl fp).pe) (fun s H C cl fp => let ⟨_, z⟩ := ht s H C cl fp; z.can) (fun s H C cl fp => let ⟨_, z⟩ := he s H C cl fp; z.can) hs,
    fun σ env ρ st H Z ev es h => (se_lc (pos := pos) hc hN hi ok hg ht he hs).sd σ env ρ st H _ ev es (h.bindR fun d st1 ρ1 H1 v f e1 es1 q => q ρ1 H1 _ (Fr.refl H1 ρ1) ((ev.mono f).set e1 i) es1)⟩
end
end Dn

set_option Elab.async false
set_option linter.all false
set_option maxRecDepth 100000
set_option maxHeartbeats 2000000
/-! A def on data that names no object: told at the empty store. -/
namespace Dn
open PySem PySem.Spec PyProof.Rows L2
mutual
/-- data without objects -/
def D.pl : D → Bool
  | .tup ds => D.plAll ds
  | .ref _ => false
  | .kl _ => false
  | _ => true
def D.plAll : List D → Bool
  | [] => true
  | d :: ds => d.pl && D.plAll ds
end
section
variable {K : PySem.W.Frag} {T : List (Addr × Str)} {H H' : Hp} {ρ ρ' : List Addr} {st : Sto}
mutual
theorem EV.any : ∀ {d : D} {v : V}, d.pl = true → EV K H ρ d v → EV K H ρ' d v
  | _, _, _, .non => .non
  | _, _, _, .bl b => .bl b
  | _, _, _, .int i => .int i
  | _, _, _, .str s => .str s
  | _, _, c, .tup h r => .tup h (EVs.any (by unfold D.pl at c; exact c) r)
  | _, _, c, .ref h => by cases c
  | _, _, _, .ty n => .ty n
  | _, _, _, .ob a => .ob a
  | _, _, c, .kl h r => by cases c
theorem EVs.any : ∀ {ds : List D} {vs : List V}, D.plAll ds = true → EVs K H ρ ds vs → EVs K H ρ' ds vs
  | _, _, _, .nil => .nil
  | _, _, c, .cons h r => by
    unfold D.plAll at c
    have c' := (Bool.and_eq_true _ _).mp c
    exact .cons (EV.any c'.1 h) (EVs.any c'.2 r)
end
theorem ES.none (e : ES K T H ρ st) : ES K T H [] [] := ⟨e.tabs, rfl, List.nodup_nil, fun i a c h => by simp at h⟩
theorem Fr.of_none (f : Fr H [] H' ρ') : Fr H ρ H' ρ := ⟨⟨[], (List.append_nil _).symm⟩, fun a o h _ t => f.keep a o h List.not_mem_nil t, f.tup, f.frz, fun a h n => absurd h n⟩
theorem ES.of_none {st' : Sto} (e : ES K T H ρ st) (f : Fr H [] H' ρ') (e' : ES K T H' ρ' st') : ES K T H' ρ st :=
  ⟨e'.tabs, e.len, e.nd, fun i a c h1 h2 => (e.cell i a c h1 h2).mono f.of_none fun o h t => f.keep a o h List.not_mem_nil t⟩
def pureM (M : FN) : FN := fun xs st => if D.plAll xs = true then match M xs [] with
  | .ok d _ => if d.pl = true then .ok d st else .no
  | .er n _ => .er n st
  | .no => .no
  else .no
theorem pure_ok {M : FN} {xs : List D} {d : D} {l : Sto} (h : M xs [] = .ok d l) (st : Sto) (hx : D.plAll xs = true := by rfl) (hd : d.pl = true := by rfl) : pureM M xs st = .ok d st := by
  unfold pureM
  rw [if_pos hx, h]
  dsimp only
  rw [if_pos hd]
theorem pure_er {M : FN} {xs : List D} {n : Nat} {l : Sto} (h : M xs [] = .er n l) (st : Sto) (hx : D.plAll xs = true := by rfl) : pureM M xs st = .er n st := by
  unfold pureM
  rw [if_pos hx, h]
theorem Ok.pure {P : Program} {w : World} {mg : Str → Option Value} {base : Heap} {C : Nat → Addr} {x : Str} {ps : List Str} {n k : Nat} {M : FN} (h : Ok P w K mg base T C x ps n M k) : Ok P w K mg base T C x ps n (pureM M) k := by
  obtain ⟨f, fd, h1, h2, h3, h4⟩ := h
  refine ⟨f, fd, h1, h2, h3, h4.imp fun vs H Q E z => ?_⟩
  obtain ⟨xs, ρ, st, e1, e2, e3, e4⟩ := z
  unfold pureM at e4
  split at e4
  · rename_i hx
    refine ⟨xs, [], [], e1, e2.any hx, e3.none, ?_⟩
    cases q : M xs [] with
    | ok d l =>
      rw [q] at e4
      dsimp only at e4
      split at e4
      · rename_i hd
        intro ρ' H' v f ev es
        exact e4 ρ H' v f.of_none (ev.any hd) (e3.of_none f es)
      · exact e4.elim
    | er n l =>
      rw [q] at e4
      intro ρ' H' f es
      exact e4 ρ H' f.of_none (e3.of_none f es)
    | no => rw [q] at e4; exact e4.elim
  · exact e4.elim
end
end Dn

set_option Elab.async false
set_option linter.all false
set_option maxRecDepth 100000
set_option maxHeartbeats 2000000
/-! More to walk, more targets, more of lists. -/
namespace Dn
open PySem PySem.Spec PyProof.Rows L2 RZ
/-! ### a comprehension's target that is a tuple -/
structure SGOs (X : Cx) (G : Gx) (vs : List Nat) (es : List Expr) (g : TGs) (m : MGs) : Prop where
  pe : PGs X es g
  sd : ∀ (ds : List D) (us : List V) (σ : L2.St) (env : Ev) (ρ : List Addr) (st : Sto) (H : Hp) (Q : L2.St → Hp → Prop), EVs X.K H ρ ds us → EVo X.K H ρ env σ → ES X.K G.T H ρ st →
    Post (fun H ρ env σ' => EVo X.K H ρ env σ' ∧ L2.wipe σ' vs = L2.wipe σ vs) X.K G.T G.C H ρ Q G.E (m ds env st) → g us σ H Q
section
variable {X : Cx} {G : Gx} {e : Expr} {es : List Expr} {g : TG} {gs : TGs} {mg : MG} {mgs : MGs} {vs : List Nat} {pos : Pos}
theorem sgos_nil : SGOs X G vs [] gNil mNil := ⟨pgs_nil, fun ds us σ env ρ st H Q hd ev es h => by
  cases hd with
  | nil => exact ⟨rfl, h.now ⟨ev, rfl⟩ es⟩
  | cons _ _ => exact h.elim⟩
theorem sgos_cons (h1 : SGO X G vs e g mg) (h2 : SGOs X G vs es gs mgs) (hs : (assignEach (e :: es) X.env).map (·.2) = assign e X.env :: (assignEach es X.env).map (·.2) := by rfl) : SGOs X G vs (e :: es) (gCons g gs) (mCons mg mgs) := ⟨pgs_cons h1.pe h2.pe hs, fun ds us σ env ρ st H Q hd ev es h => by
  cases hd with
  | nil => exact h.elim
  | @cons d v ds us hd hr =>
    refine ⟨v, us, rfl, h1.sd d v σ env ρ st H _ hd ev es (h.bind fun env1 st1 ρ1 H1 σ1 f r1 es1 q => ?_)⟩
    obtain ⟨ev1, w1⟩ := r1
    refine h2.sd ds us σ1 env1 ρ1 st1 H1 Q (hr.mono f) ev1 es1 ?_
    cases hq : mgs ds env1 st1 with
    | ok env2 st2 =>
      rw [hq] at q
      intro ρ' H' σ' f' r' e'
      exact q ρ' H' σ' f' ⟨r'.1, r'.2.trans w1⟩ e'
    | er n st2 => rw [hq] at q; exact q
    | no => rw [hq] at q; exact q.elim⟩
theorem sgo_tup {k : Nat} {n : Nat} (hc : X.calm = true) (h : SGOs X G vs es gs mgs) (hn : (assignEach es X.env).length = n := by rfl) (hst : (assignEach es X.env).findIdx? (·.1) = none := by rfl) : SGO X G vs (.Tuple es k pos) (gTup X.K n gs) (mTup n mgs) :=
  ⟨pg_tup hc h.pe hn hst, fun d v σ env ρ st H Q hd ev es q => by
  cases hd with
  | @tup a ds us hq hr =>
    simp only [mTup] at q
    by_cases hl : ds.length = n
    · rw [if_pos hl] at q
      exact ⟨a, us, rfl, hq, by rw [← hr.length]; exact hl, h.sd ds us σ env ρ st H Q hr ev es q⟩
    · rw [if_neg hl] at q
      exact q.elim
  | _ => exact q.elim⟩
end
/-- a reading by what is made of data -/
def canG (K : PySem.W.Frag) (G : Gx) (vs : List Nat) (m : MG) : TG := fun v σ H Q => ∃ d env ρ st, EV K H ρ d v ∧ EVo K H ρ env σ ∧ ES K G.T H ρ st ∧ Post (fun H ρ env σ' => EVo K H ρ env σ' ∧ L2.wipe σ' vs = L2.wipe σ vs) K G.T G.C H ρ Q G.E (m d env st)
section
variable {X : Cx} {G : Gx} {vs : List Nat} {e tg : Expr} {mg : MG} {pos spos py : Pos} {y : Str}
theorem SGO.can {g : TG} (h : SGO X G vs e g mg) : PG X e (canG X.K G vs mg) := ⟨fun pins s σ H v u Q I r q => by
  obtain ⟨d, env, ρ, st, h0, h1, h2, h3⟩ := q
  exact h.pe.run pins s σ H v u Q I r (h.sd d v σ env ρ st H Q h0 h1 h2 h3)⟩
theorem se_lcT {elt iter : Expr} {ifs : List Expr} {scope : Scope} {own : List (Str × Nat)} {wi : TI} {mi : MI} {mt : MT} {me : ME} (hc : X.calm = true) (hN : X.N.Nodup) (hi : SI X G tg iter wi mi) (ok : BlkOk X.N X.env.scope scope own)
    (hg : ∀ (s : Shared) (H : Hp) (C : Addr) (cl : List (Str × Addr)) (fp : List Addr), ∃ g, SGO (X.blk s H scope (compEnvC scope cl C X.env) fp) G.nox (own.map (·.2)) tg g mg)
    (ht : ∀ (s : Shared) (H : Hp) (C : Addr) (cl : List (Str × Addr)) (fp : List Addr), ∃ tt, STs (X.blk s H scope (compEnvC scope cl C X.env) fp) G.nox ifs tt mt)
    (he : ∀ (s : Shared) (H : Hp) (C : Addr) (cl : List (Str × Addr)) (fp : List Addr), ∃ te, SE (X.blk s H scope (compEnvC scope cl C X.env) fp) G.nox elt te me) (hs : ∀ x, foldedSetIterable iter X.env x = pure x := by intro _; rfl) :
    SE X G (.ListComp elt [⟨tg, iter, ifs, 0⟩] scope pos) (tLc wi (canG X.K G.nox (own.map (·.2)) mg) (canT X.K G.nox mt) (canE X.K G.nox me) (own.map (·.2))) (dLc mi (own.map (·.2)) mg mt me) :=
  ⟨pe_lc hc hN hi.pe ok (fun s H C cl fp => let ⟨_, z⟩ := hg s H C cl fp; z.can) (fun s H C cl fp => let ⟨_, z⟩ := ht s H C cl fp; z.can) (fun s H C cl fp => let ⟨_, z⟩ := he s H C cl fp; z.can) hs, sd_lc (iter := iter) hi.sd
    (fun d v σ env ρ st H Q h0 h1 h2 h3 => ⟨d, env, ρ, st, h0, h1, h2, h3⟩) (fun σ env ρ st H Q h1 h2 h3 => ⟨env, ρ, st, h1, h2, h3⟩) (fun σ env ρ st H Q h1 h2 h3 => ⟨env, ρ, st, h1, h2, h3⟩)⟩
theorem ss_setLcT (i : Nat) {elt iter : Expr} {ifs : List Expr} {scope : Scope} {own : List (Str × Nat)} {wi : TI} {mi : MI} {mt : MT} {me : ME} (hc : X.calm = true) (hN : X.N.Nodup) (hi : SI X G tg iter wi mi) (ok : BlkOk X.N X.env.scope scope own)
    (hg : ∀ (s : Shared) (H : Hp) (C : Addr) (cl : List (Str × Addr)) (fp : List Addr), ∃ g, SGO (X.blk s H scope (compEnvC scope cl C X.env) fp) G.nox (own.map (·.2)) tg g mg)
    (ht : ∀ (s : Shared) (H : Hp) (C : Addr) (cl : List (Str × Addr)) (fp : List Addr), ∃ tt, STs (X.blk s H scope (compEnvC scope cl C X.env) fp) G.nox ifs tt mt)
    (he : ∀ (s : Shared) (H : Hp) (C : Addr) (cl : List (Str × Addr)) (fp : List Addr), ∃ te, SE (X.blk s H scope (compEnvC scope cl C X.env) fp) G.nox elt te me) (hy : X.N[i]? = some y := by rfl) (hyl : X.env.scope.names.lookup y = some .local := by rfl)
    (hsw : swapsWith (.ListComp elt [⟨tg, iter, ifs, 0⟩] scope pos) (some (.Name y py)) spos.line X.env = pure true := by rfl) (hs : ∀ x, foldedSetIterable iter X.env x = pure x := by intro _; rfl) :
    SS X G (.Assign [.Name y py] (.ListComp elt [⟨tg, iter, ifs, 0⟩] scope pos) spos) (L2.tAsg (tLc wi (canG X.K G.nox (own.map (·.2)) mg) (canT X.K G.nox mt) (canE X.K G.nox me) (own.map (·.2))) (gName i)) (sAsg (dLc mi (own.map (·.2)) mg mt me) (mName i)) :=
  ⟨ps_setLc hc hN hy hyl hsw hi.pe ok (fun s H C cl fp => let ⟨_, z⟩ := hg s H C cl fp; z.can) (fun s H C cl fp => let ⟨_, z⟩ := ht s H C cl fp; z.can) (fun s H C cl fp => let ⟨_, z⟩ := he s H C cl fp; z.can) hs,
    fun σ env ρ st H Z ev es h => (se_lcT (pos := pos) hc hN hi ok hg ht he hs).sd σ env ρ st H _ ev es (h.bindR fun d st1 ρ1 H1 v f e1 es1 q => q ρ1 H1 _ (Fr.refl H1 ρ1) ((ev.mono f).set e1 i) es1)⟩
end
/-! ### zip -/
def zipFeed (f g : Feed) : Feed := fun i st => match f i st, g i st with
  | some (some a), some (some b) => some (some (.tup [a, b]))
  | some none, some _ => some none
  | some (some _), some none => some none
  | _, _ => none
/-- a list as it is walked: where it stands, as it stood -/
def feedOf (st : Sto) : D → Option (Feed × Nat)
  | .tup ds => some (seqFeed ds, ds.length)
  | .kl ds => some (seqFeed ds, ds.length)
  | .ref n => match st[n]? with
    | some (.lst ds) => some (lstFeed n, ds.length)
    | _ => none
  | _ => none
def isTup : D → Bool
  | .tup _ => true
  | _ => false
def itZip (as : MA) : MI := fun env st => (as env st).bind fun xs st => match xs with
  | [x, y] => if isTup x = isTup y then match feedOf st x, feedOf st y with
    | some f, some g => .ok (zipFeed f.1 g.1, min f.2 g.2) st
    | _, _ => .no
    else .no
  | _ => .no
section
variable {K : PySem.W.Frag} {T : List (Addr × Str)} {H : Hp} {ρ : List Addr}
/-- what a feed tells of a list's items -/
def RdS (K : PySem.W.Frag) (T : List (Addr × Str)) (S : Hp → List V → Prop) (H0 : Hp) (ρ0 : List Addr) (f : Feed) : Prop :=
  ∀ (H : Hp) (ρ : List Addr) (st : Sto) (i : Nat) (o : Option D), Fr H0 ρ0 H ρ → ES K T H ρ st → f i st = some o → ∃ vs ds, S H vs ∧ EVs K H ρ ds vs ∧ ds[i]? = o
theorem rd_lst {a : Addr} {n : Nat} (hn : ρ[n]? = some a) : RdS K T (fun H => SqL K H a) H ρ (lstFeed n) := fun H' ρ' st i o f es e => by
  obtain ⟨ds, h1, h2⟩ := lstFeed_some e
  obtain ⟨vs, q1, q2⟩ := es.seq (f.get hn) h1
  exact ⟨vs, ds, q1, q2, h2⟩
theorem rd_kl {a : Addr} {ds : List D} {vs : List V} (hq : SqF K H ρ a vs) (r : EVs K H ρ ds vs) : RdS K T (fun H => SqL K H a) H ρ (seqFeed ds) := fun H' ρ' st i o f es e => ⟨vs, ds, (f.rf hq).l, r.mono f, Option.some.inj e⟩
theorem rd_tup {a : Addr} {ds : List D} {vs : List V} (hq : SqT K H a vs) (r : EVs K H ρ ds vs) : RdS K T (fun H => SqT K H a) H ρ (seqFeed ds) := fun H' ρ' st i o f es e => ⟨vs, ds, f.rd hq, r.mono f, Option.some.inj e⟩
theorem zip_none {f g : Feed} {i : Nat} {st : Sto} (h : zipFeed f g i st = some none) : ∃ o p, f i st = some o ∧ g i st = some p ∧ (o = none ∨ p = none) := by
  unfold zipFeed at h
  cases e1 : f i st with
  | none => rw [e1] at h; cases h
  | some o =>
    cases e2 : g i st with
    | none => rw [e1, e2] at h; cases o <;> cases h
    | some p =>
      rw [e1, e2] at h
      cases o with
      | none => exact ⟨_, _, rfl, rfl, .inl rfl⟩
      | some x =>
        cases p with
        | none => exact ⟨_, _, rfl, rfl, .inr rfl⟩
        | some y => cases h
theorem zip_some {f g : Feed} {i : Nat} {st : Sto} {d : D} (h : zipFeed f g i st = some (some d)) : ∃ x y, f i st = some (some x) ∧ g i st = some (some y) ∧ d = .tup [x, y] := by
  unfold zipFeed at h
  cases e1 : f i st with
  | none => rw [e1] at h; cases h
  | some o =>
    cases e2 : g i st with
    | none => rw [e1, e2] at h; cases o <;> cases h
    | some p =>
      rw [e1, e2] at h
      cases o with
      | none => cases h
      | some x =>
        cases p with
        | none => cases h
        | some y => cases h; exact ⟨x, y, rfl, rfl, rfl⟩
theorem live_pair {S1 S2 : Hp → List V → Prop} {J : It} {f g : Feed} (h1 : RdS K T S1 H ρ f) (h2 : RdS K T S2 H ρ g)
    (jg : ∀ i H, (∃ (xs ys : List V) (x y : V), S1 H xs ∧ S2 H ys ∧ xs[i]? = some x ∧ ys[i]? = some y) → J.go i H)
    (jy : ∀ i H v H', J.yld i H v H' → ∃ T x y, v = .ref T ∧ H T = none ∧ H' = upd H T (.tup [x, y]) ∧ (∀ xs, S1 H xs → xs[i]? = some x) ∧ ∀ ys, S2 H ys → ys[i]? = some y)
    (js : ∀ i H, (∃ xs ys : List V, S1 H xs ∧ S2 H ys ∧ (xs.length ≤ i ∨ ys.length ≤ i)) → J.stop i H) : Live K T H ρ J (zipFeed f g) := by
  refine ⟨fun H' ρ' st i fr es e => ?_, fun H' ρ' st i d fr es e => ?_⟩
  · obtain ⟨o, p, e1, e2, hh⟩ := zip_none e
    obtain ⟨vs, ds, a1, a2, a3⟩ := h1 H' ρ' st i o fr es e1
    obtain ⟨ws, es', b1, b2, b3⟩ := h2 H' ρ' st i p fr es e2
    refine js i H' ⟨vs, ws, a1, b1, ?_⟩
    rcases hh with z | z
    · subst z
      exact .inl (by rw [← a2.length]; exact List.getElem?_eq_none_iff.mp a3)
    · subst z
      exact .inr (by rw [← b2.length]; exact List.getElem?_eq_none_iff.mp b3)
  · obtain ⟨x, y, e1, e2, rfl⟩ := zip_some e
    obtain ⟨vs, ds, a1, a2, a3⟩ := h1 H' ρ' st i _ fr es e1
    obtain ⟨ws, es', b1, b2, b3⟩ := h2 H' ρ' st i _ fr es e2
    obtain ⟨v, c1, c2⟩ := a2.get a3
    obtain ⟨w, d1, d2⟩ := b2.get b3
    refine ⟨jg i H' ⟨vs, ws, v, w, a1, b1, c1, d1⟩, fun u H'' yl => ?_⟩
    obtain ⟨Ta, p, q, rfl, hT, rfl, hp, hq⟩ := jy i H' u H'' yl
    have ep := hp vs a1
    have eq := hq ws b1
    rw [c1] at ep
    rw [d1] at eq
    cases ep
    cases eq
    have fl : Fr H' ρ' (upd H' Ta (.tup [v, w])) ρ' := Fr.laid hT
    exact ⟨fl, .tup (.inl (.inl upd_same)) (.cons (c2.mono fl) (.cons (d2.mono fl) .nil)), es.laid hT⟩
/-- what is walked -/
theorem feed_of {x : D} {v : V} {st : Sto} {f : Feed} {n : Nat} (ex : EV K H ρ x v) (es : ES K T H ρ st) (h : feedOf st x = some (f, n)) :
    ∃ a, v = .ref a ∧ ((isTup x = true ∧ (∃ xs, SqT K H a xs) ∧ RdS K T (fun H => SqT K H a) H ρ f) ∨ (isTup x = false ∧ (∃ xs, SqL K H a xs) ∧ RdS K T (fun H => SqL K H a) H ρ f)) := by
  cases ex with
  | @tup a ds vs hq r =>
    cases h
    exact ⟨a, rfl, .inl ⟨rfl, ⟨vs, hq⟩, rd_tup hq r⟩⟩
  | @kl a ds vs hq r =>
    cases h
    exact ⟨a, rfl, .inr ⟨rfl, ⟨vs, hq.l⟩, rd_kl hq r⟩⟩
  | @ref n a hn =>
    unfold feedOf at h
    dsimp only at h
    cases q : st[n]? with
    | none => rw [q] at h; cases h
    | some c =>
      rw [q] at h
      cases c with
      | dct _ => cases h
      | dtt _ => cases h
      | obj _ _ => cases h
      | lst ds =>
        cases h
        obtain ⟨vs, q1, q2⟩ := es.cell n a _ hn q
        exact ⟨a, rfl, .inr ⟨rfl, ⟨vs, .inl (.inl q1)⟩, rd_lst hn⟩⟩
  | _ => cases h
end
section
variable {X : Cx} {G : Gx} {a b c tg : Expr} {elts : List Expr} {tas : TA} {mas : MA} {pos p tpos : Pos} {kk : Nat}
theorem si_zip (hg : Gl X "zip") (hm : X.mg "zip" = none) (ha : SA X G [a, b] tas mas) (hs : starEach [a, b] X.env = (false, eval a X.env) :: starEach [b] X.env := by rfl) (hpl : (backTo pos (starEach [b] X.env)).any (·.1) = false := by rfl) :
    SI X G (.Tuple elts kk tpos) (.Call (.Name "zip" p) [a, b] [] pos) (iZipA X.K tas) (itZip mas) := ⟨pi_zipA hg hm ha.pe hs hpl, fun σ env ρ st H Q ev es h => by
  refine ha.sd σ env ρ st H _ ev es (h.bind fun xs st1 ρ1 H1 vs f1 e1 es1 q => ?_)
  split at q
  · rename_i x y
    split at q
    · rename_i ht
      split at q
      · rename_i f g ef eg
        cases e1 with
        | cons ex r =>
          cases r with
          | cons ey r =>
            cases r
            obtain ⟨f, n⟩ := f
            obtain ⟨g, m⟩ := g
            obtain ⟨pa, rfl, ha⟩ := feed_of ex es1 ef
            obtain ⟨pb, rfl, hb⟩ := feed_of ey es1 eg
            rcases ha with ⟨t1, ⟨us, s1⟩, r1⟩ | ⟨t1, ⟨us, s1⟩, r1⟩
            · rcases hb with ⟨t2, ⟨ws, s2⟩, r2⟩ | ⟨t2, _, _⟩
              · exact ⟨pa, pb, us, ws, rfl, .inr ⟨s1, s2, q.now (live_pair r1 r2 (fun _ _ z => z) (fun _ _ _ _ z => z) (fun _ _ z => z)) es1⟩⟩
              · rw [t1, t2] at ht
                cases ht
            · rcases hb with ⟨t2, _, _⟩ | ⟨t2, ⟨ws, s2⟩, r2⟩
              · rw [t1, t2] at ht
                cases ht
              · exact ⟨pa, pb, us, ws, rfl, .inl ⟨s1, s2, q.now (live_pair r1 r2 (fun _ _ z => z) (fun _ _ _ _ z => z) (fun _ _ z => z)) es1⟩⟩
      · exact q.elim
    · exact q.elim
  · exact q.elim⟩
/-! ### range of three -/
def rngCFeed (lo c : Int) (n : Nat) : Feed := fun i _ => some (if i < n then some (.int (lo + (i : Nat) * c)) else none)
def rngOk (i j c : Int) (n : Nat) : Bool := decide (c ≠ 0 ∧ c.natAbs < 1073741824 ∧ Builtin.Range.small i j c = true ∧ Builtin.Range.rangeSize i j c = n)
def itRng3 (as : MA) : MI := fun env st => (as env st).bind fun xs st => match xs with
  | [.int i, .int j, .int c] => if rngOk i j c (Builtin.Range.rangeSize i j c).toNat = true then .ok (rngCFeed i c (Builtin.Range.rangeSize i j c).toNat, (Builtin.Range.rangeSize i j c).toNat) st else .no
  | _ => .no
theorem live_rngC {K : PySem.W.Frag} {T : List (Addr × Str)} {H : Hp} {ρ : List Addr} {lo c : Int} {n : Nat} : Live K T H ρ (Itc lo c n) (rngCFeed lo c n) := by
  refine ⟨fun H' ρ' st i f es e => ?_, fun H' ρ' st i d f es e => ?_⟩
  · have z := Option.some.inj e
    by_cases h : i < n
    · rw [if_pos h] at z; cases z
    · exact Nat.le_of_not_lt h
  · have z := Option.some.inj e
    by_cases h : i < n
    · rw [if_pos h] at z
      cases z
      refine ⟨h, fun x H'' y => ?_⟩
      obtain ⟨e1, hy⟩ := y
      subst e1
      subst hy
      exact ⟨Fr.refl _ _, .int _, es⟩
    · rw [if_neg h] at z; cases z
theorem si_rng3 (hg : Gl X "range") (hm : X.mg "range" = none) (ha : SA X G [a, b, c] tas mas) (hs : starEach [a, b, c] X.env = (false, eval a X.env) :: starEach [b, c] X.env := by rfl)
    (hpl : (backTo pos (starEach [b, c] X.env)).any (·.1) = false := by rfl) : SI X G tg (.Call (.Name "range" p) [a, b, c] [] pos) (iRng3 tas) (itRng3 mas) := ⟨pi_range3 hg hm ha.pe hs hpl, fun σ env ρ st H Q ev es h => by
  refine ha.sd σ env ρ st H _ ev es (h.bind fun xs st1 ρ1 H1 vs f1 e1 es1 q => ?_)
  split at q
  · rename_i i j c
    split at q
    · rename_i hr
      cases e1 with
      | cons h1 r =>
        cases r with
        | cons h2 r =>
          cases r with
          | cons h3 r =>
            cases r
            cases h1
            cases h2
            cases h3
            have hr' : c ≠ 0 ∧ c.natAbs < 1073741824 ∧ Builtin.Range.small i j c = true ∧ Builtin.Range.rangeSize i j c = ((Builtin.Range.rangeSize i j c).toNat : Int) := by
              unfold rngOk at hr
              exact of_decide_eq_true hr
            exact ⟨i, j, c, _, rfl, hr', q.now live_rngC es1⟩
    · exact q.elim
  · exact q.elim⟩
end
/-! ### extend, pop -/
section
variable {K : PySem.W.Frag} {G : Gx}
def extendD : FM := fun o xs st => match o, xs with
  | .ref n, [.ref m] => match st[n]?, st[m]? with
    | some (.lst a), some (.lst b) => if a.length + b.length ≤ 100000 then .ok .non (st.set n (.lst (a ++ b))) else .no
    | _, _ => .no
  | _, _ => .no
theorem ms_extend : MtSo K G rExtend extendD := by
  intro o xs vo vs ρ st H Q eo exs es h
  unfold extendD at h
  split at h
  · rename_i n m
    split at h
    · rename_i a b e1 e2
      split at h
      · rename_i hl
        obtain ⟨p, rfl, hn⟩ := eo.ofRef
        obtain ⟨v, rfl, ev⟩ := exs.one rfl
        obtain ⟨q, rfl, hm⟩ := ev.ofRef
        obtain ⟨us, q1, q2⟩ := es.cell n p _ hn e1
        obtain ⟨ws, r1, r2⟩ := es.cell m q _ hm e2
        exact ⟨p, q, us, ws, rfl, rfl, q1, r1, by rw [← q2.length, ← r2.length]; exact Nat.le_trans hl line5, h ρ _ _ (Fr.write (List.mem_of_getElem? hn) q1) .non (es.write hn q1 (q2.append r2))⟩
      · exact h.elim
    · exact h.elim
  · exact h.elim
def popD : FM := fun o xs st => match o, xs with
  | .ref n, [] => match st[n]? with
    | some (.lst a) => match a[a.length - 1]? with
      | some d => .ok d (st.set n (.lst a.dropLast))
      | none => .no
    | _ => .no
  | _, _ => .no
theorem ms_pop : MtSo K G rPop popD := by
  intro o xs vo vs ρ st H Q eo exs es h
  unfold popD at h
  split at h
  · rename_i n
    split at h
    · rename_i a e1
      split at h
      · rename_i d e2
        obtain ⟨p, rfl, hn⟩ := eo.ofRef
        cases exs
        obtain ⟨us, q1, q2⟩ := es.cell n p _ hn e1
        obtain ⟨v, g1, g2⟩ := q2.get e2
        have fw : Fr H ρ (upd H p (.lst us.dropLast)) ρ := Fr.write (List.mem_of_getElem? hn) q1
        exact ⟨p, us, v, rfl, rfl, q1, by rw [← q2.length]; exact g1, h ρ _ _ fw (g2.mono fw) (es.write hn q1 q2.dropLast)⟩
      · exact h.elim
    · exact h.elim
  · exact h.elim
end
/-! ### a, b, c = x, y, z -/
def sPar3 (i j l : Nat) (as : MA) : MS := fun env st => (as env st).toS fun ds st => match ds with
  | [d, e, f] => .nx (((env.set i (some d)).set j (some e)).set l (some f)) st
  | _ => .no
section
variable {X : Cx} {G : Gx} {a b c : Expr} {tas : TA} {mas : MA} {pos : Pos}
theorem ss_par3 (i j l : Nat) {x y z : Str} {px py pz pt : Pos} {kt k2 pt2} (hc : X.calm = true) (hN : X.N.Nodup) (ha : SA X G [a, b, c] tas mas) (hi : X.N[i]? = some x := by rfl) (hj : X.N[j]? = some y := by rfl) (hl : X.N[l]? = some z := by rfl) (hij : i ≠ j := by decide) (hil : i ≠ l := by decide) (hjl : j ≠ l := by decide)
    (hx : X.env.scope.names.lookup x = some .local := by rfl) (hy : X.env.scope.names.lookup y = some .local := by rfl) (hz : X.env.scope.names.lookup z = some .local := by rfl)
    (hw : swappedStores [.Tuple [.Name x px, .Name y py, .Name z pz] kt pt] (.Tuple [a, b, c] k2 pt2) X.env = pure (some [x, y, z]) := by rfl)
    (hs : swapsWithSole [.Tuple [.Name x px, .Name y py, .Name z pz] kt pt] (.Tuple [a, b, c] k2 pt2) pos.line X.env = pure false := by rfl) :
    SS X G (.Assign [.Tuple [.Name x px, .Name y py, .Name z pz] kt pt] (.Tuple [a, b, c] k2 pt2) pos) (tPar3 i j l tas) (sPar3 i j l mas) := ⟨ps_par3 hc hN hi hj hl hij hil hjl hx hy hz ha.pe hw hs, fun σ env ρ st H Z ev es h => ha.sd σ env ρ st H _ ev es (h.bindR fun ds st1 ρ1 H1 vs f e1 es1 q => by
  cases e1 with
  | nil => exact q.elim
  | @cons d v ds vs e1 r1 =>
    cases r1 with
    | nil => exact q.elim
    | @cons d2 v2 ds vs e2 r2 =>
      cases r2 with
      | nil => exact q.elim
      | @cons d3 v3 ds vs e3 r3 =>
        cases r3 with
        | nil => exact ⟨v, v2, v3, rfl, q ρ1 H1 _ (Fr.refl H1 ρ1) ((((ev.mono f).set e1 i).set e2 j).set e3 l) es1⟩
        | cons _ _ => exact q.elim)⟩
end
end Dn

set_option Elab.async false
set_option linter.all false
set_option maxRecDepth 100000
set_option maxHeartbeats 2000000
/-! math.lcm of two, three, four. -/
namespace Dn
open PySem PySem.Spec PyProof.Rows L2 PySem.W PySem.Calls
theorem args_lcm3 (a b c : Value) : argsOk "math.lcm" ⟨[a, b, c], []⟩ := by unfold argsOk; kernel_rfl
theorem args_lcm4 (a b c d : Value) : argsOk "math.lcm" ⟨[a, b, c, d], []⟩ := by unfold argsOk; kernel_rfl
abbrev lcm2 (a b : Int) : Nat := (Nat.lcm 1 a.natAbs).lcm b.natAbs
abbrev lcm3 (a b c : Int) : Nat := (lcm2 a b).lcm c.natAbs
abbrev lcm4 (a b c d : Int) : Nat := (lcm3 a b c).lcm d.natAbs
theorem run_lcm3 (a : Int) (t : Tok) (b : Int) (u : Tok) (c : Int) (v : Tok) (h0 : ¬(max 1 a.natAbs).log2 / 30 + 1 > 450) (h1 : ¬(max a.natAbs b.natAbs).log2 / 30 + 1 > 450)
    (h2 : ¬(max ((Nat.lcm 1 a.natAbs).lcm b.natAbs) c.natAbs).log2 / 30 + 1 > 450) (hsz : ((((Nat.lcm 1 a.natAbs).lcm b.natAbs).lcm c.natAbs : Nat) : Int).natAbs.log2 < bitsLine) :
    Gives (Builtin.«math.lcm» ⟨[.int a t, .int b u, .int c v], []⟩) (.int ((((Nat.lcm 1 a.natAbs).lcm b.natAbs).lcm c.natAbs : Nat) : Int)) :=
  .of_wp fun M A E s Q h => by
    obtain ⟨hp, g, d, tk, os⟩ := s
    wp_walk
    refine wpAny_ite_false (decide_eq_false h2) ?_
    wp_walk
    refine wpAny_ite_false (decide_eq_false (Nat.not_le.mpr hsz)) ?_
    wp_walk
    exact ⟨_, rfl, h⟩
theorem run_lcm4 (a : Int) (t : Tok) (b : Int) (u : Tok) (c : Int) (v : Tok) (e : Int) (x : Tok) (h0 : ¬(max 1 a.natAbs).log2 / 30 + 1 > 450) (h1 : ¬(max a.natAbs b.natAbs).log2 / 30 + 1 > 450)
    (h2 : ¬(max ((Nat.lcm 1 a.natAbs).lcm b.natAbs) c.natAbs).log2 / 30 + 1 > 450) (h3 : ¬(max (((Nat.lcm 1 a.natAbs).lcm b.natAbs).lcm c.natAbs) e.natAbs).log2 / 30 + 1 > 450)
    (hsz : (((((Nat.lcm 1 a.natAbs).lcm b.natAbs).lcm c.natAbs).lcm e.natAbs : Nat) : Int).natAbs.log2 < bitsLine) :
    Gives (Builtin.«math.lcm» ⟨[.int a t, .int b u, .int c v, .int e x], []⟩) (.int (((((Nat.lcm 1 a.natAbs).lcm b.natAbs).lcm c.natAbs).lcm e.natAbs : Nat) : Int)) :=
  .of_wp fun M A E s Q h => by
    obtain ⟨hp, g, d, tk, os⟩ := s
    wp_walk
    refine wpAny_ite_false (decide_eq_false h2) ?_
    wp_walk
    refine wpAny_ite_false (decide_eq_false h3) ?_
    wp_walk
    refine wpAny_ite_false (decide_eq_false (Nat.not_le.mpr hsz)) ?_
    wp_walk
    exact ⟨_, rfl, h⟩
def rLcm : List V → Hp → VK → Prop := fun vs H Q =>
  (∃ a b : Int, vs = [.int a, .int b] ∧ a.natAbs.log2 < 3000 ∧ b.natAbs.log2 < 3000 ∧ Q (.int (((Nat.lcm 1 a.natAbs).lcm b.natAbs : Nat) : Int)) H) ∨
  (∃ a b c : Int, vs = [.int a, .int b, .int c] ∧ a.natAbs.log2 < 3000 ∧ b.natAbs.log2 < 3000 ∧ c.natAbs.log2 < 3000 ∧ Q (.int ((((Nat.lcm 1 a.natAbs).lcm b.natAbs).lcm c.natAbs : Nat) : Int)) H) ∨
  (∃ a b c d : Int, vs = [.int a, .int b, .int c, .int d] ∧ a.natAbs.log2 < 3000 ∧ b.natAbs.log2 < 3000 ∧ c.natAbs.log2 < 3000 ∧ d.natAbs.log2 < 3000 ∧ Q (.int (((((Nat.lcm 1 a.natAbs).lcm b.natAbs).lcm c.natAbs).lcm d.natAbs : Nat) : Int)) H)
theorem lt2 {x k : Nat} (h : x.log2 < k) : x < 2 ^ k := by
  by_cases z : x = 0
  · rw [z]
    exact Nat.two_pow_pos k
  · exact (Nat.log2_lt z).mp h
theorem log_of {x k : Nat} (h : x < 2 ^ k) (hk : 0 < k) : x.log2 < k := by
  by_cases z : x = 0
  · rw [z]
    exact hk
  · exact (Nat.log2_lt z).mpr h
theorem lcm_lt {x y k m : Nat} (h : x < 2 ^ k) (h' : y < 2 ^ m) : x.lcm y < 2 ^ (k + m) := by
  have e : x.lcm y ≤ x * y := Nat.div_le_self _ _
  rw [Nat.pow_add]
  exact Nat.lt_of_le_of_lt e (Nat.mul_lt_mul'' h h')
theorem pow_up {x k m : Nat} (h : x < 2 ^ k) (hm : k ≤ m) : x < 2 ^ m := Nat.lt_of_lt_of_le h (Nat.pow_le_pow_right (by decide) hm)
theorem no450 {x y : Nat} (h : x < 2 ^ 9001) (h' : y < 2 ^ 9001) : ¬(max x y).log2 / 30 + 1 > 450 := by
  have : max x y < 2 ^ 9001 := Nat.max_lt.mpr ⟨h, h'⟩
  have := log_of this (by decide)
  omega
theorem fits {x k : Nat} (h : x < 2 ^ k) (hk : 0 < k) (hb : k ≤ 20000) : ((x : Nat) : Int).natAbs.log2 < bitsLine := by
  have := log_of h hk
  have e : bitsLine = 134217728 := by decide +kernel
  rw [Int.natAbs_natCast, e]
  omega
variable {X : Cx}
theorem cr_lcm : CallR X (.builtin "math.lcm") rLcm := by
  intro pins s σ H vs us Q I r h
  have one : (1 : Nat) < 2 ^ 9001 := Nat.one_lt_two_pow (by decide)
  have u9 : ∀ {x : Nat}, x < 2 ^ 3000 → x < 2 ^ 9001 := fun h => pow_up h (by decide)
  have la : ∀ {a : Int}, a.natAbs < 2 ^ 3000 → (Nat.lcm 1 a.natAbs) < 2 ^ 3000 := fun h => by rw [Nat.lcm_one_left]; exact h
  rcases h with ⟨a, b, rfl, ha, hb, q⟩ | ⟨a, b, c, rfl, ha, hb, hc, q⟩ | ⟨a, b, c, d, rfl, ha, hb, hc, hd, q⟩
  · obtain ⟨t, u, rfl⟩ := Vals.int2 r
    have l2 := lcm_lt (la (lt2 ha)) (lt2 hb)
    exact call_function_meets MGF.kind_lcm MGF.plain_lcm MGF.entry_lcm (MGF.args_lcm _ _) (mg_run_lcm a t b u (no450 one (u9 (lt2 ha))) (no450 (u9 (lt2 ha)) (u9 (lt2 hb))) (fits l2 (by decide) (by decide))).meets ⟨.int _, H, I.tok _, ⟨_, rfl⟩, q⟩
  · cases r with
    | cons r1 r =>
      obtain ⟨u2, u3, rfl, r2, r3⟩ := vals2 r
      obtain ⟨t, rfl⟩ := r1
      obtain ⟨u, rfl⟩ := r2
      obtain ⟨v, rfl⟩ := r3
      have l2 := lcm_lt (la (lt2 ha)) (lt2 hb)
      have l3 := lcm_lt l2 (lt2 hc)
      exact call_function_meets MGF.kind_lcm MGF.plain_lcm MGF.entry_lcm (args_lcm3 _ _ _) (run_lcm3 a t b u c v (no450 one (u9 (lt2 ha))) (no450 (u9 (lt2 ha)) (u9 (lt2 hb))) (no450 (pow_up l2 (by decide)) (u9 (lt2 hc))) (fits l3 (by decide) (by decide))).meets ⟨.int _, H, I.tok _, ⟨_, rfl⟩, q⟩
  · cases r with
    | cons r1 r =>
      cases r with
      | cons r2 r =>
        obtain ⟨u3, u4, rfl, r3, r4⟩ := vals2 r
        obtain ⟨t, rfl⟩ := r1
        obtain ⟨u, rfl⟩ := r2
        obtain ⟨v, rfl⟩ := r3
        obtain ⟨x, rfl⟩ := r4
        have l2 := lcm_lt (la (lt2 ha)) (lt2 hb)
        have l3 := lcm_lt l2 (lt2 hc)
        have l4 := lcm_lt l3 (lt2 hd)
        exact call_function_meets MGF.kind_lcm MGF.plain_lcm MGF.entry_lcm (args_lcm4 _ _ _ _) (run_lcm4 a t b u c v d x (no450 one (u9 (lt2 ha))) (no450 (u9 (lt2 ha)) (u9 (lt2 hb))) (no450 (pow_up l2 (by decide)) (u9 (lt2 hc))) (no450 (pow_up l3 (by decide)) (u9 (lt2 hd))) (fits l4 (by decide) (by decide))).meets ⟨.int _, H, I.tok _, ⟨_, rfl⟩, q⟩
def lcmD : FN := fun xs st => match xs with
  | [.int a, .int b] => if a.natAbs.log2 < 3000 ∧ b.natAbs.log2 < 3000 then .ok (.int ((a.natAbs.lcm b.natAbs : Nat) : Int)) st else .no
  | [.int a, .int b, .int c] => if a.natAbs.log2 < 3000 ∧ b.natAbs.log2 < 3000 ∧ c.natAbs.log2 < 3000 then .ok (.int (((a.natAbs.lcm b.natAbs).lcm c.natAbs : Nat) : Int)) st else .no
  | [.int a, .int b, .int c, .int d] => if a.natAbs.log2 < 3000 ∧ b.natAbs.log2 < 3000 ∧ c.natAbs.log2 < 3000 ∧ d.natAbs.log2 < 3000 then .ok (.int ((((a.natAbs.lcm b.natAbs).lcm c.natAbs).lcm d.natAbs : Nat) : Int)) st else .no
  | _ => .no
theorem cs_lcm {K : PySem.W.Frag} {G : Gx} : CallS K G rLcm lcmD := by
  intro xs vs ρ st H Q e es h
  unfold lcmD at h
  split at h
  · rename_i a b
    split at h
    · rename_i hc
      obtain ⟨v, w, rfl, ev, ew⟩ := e.two
      cases ev.ofInt
      cases ew.ofInt
      refine .inl ⟨a, b, rfl, hc.1, hc.2, ?_⟩
      rw [Nat.lcm_one_left]
      exact h.now (.int _) es
    · exact h.elim
  · rename_i a b c
    split at h
    · rename_i hc
      cases e with
      | cons e1 r =>
        obtain ⟨v, w, rfl, ev, ew⟩ := r.two
        cases e1.ofInt
        cases ev.ofInt
        cases ew.ofInt
        refine .inr (.inl ⟨a, b, c, rfl, hc.1, hc.2.1, hc.2.2, ?_⟩)
        rw [Nat.lcm_one_left]
        exact h.now (.int _) es
    · exact h.elim
  · rename_i a b c d
    split at h
    · rename_i hc
      cases e with
      | cons e1 r =>
        cases r with
        | cons e2 r =>
          obtain ⟨v, w, rfl, ev, ew⟩ := r.two
          cases e1.ofInt
          cases e2.ofInt
          cases ev.ofInt
          cases ew.ofInt
          refine .inr (.inr ⟨a, b, c, d, rfl, hc.1, hc.2.1, hc.2.2.1, hc.2.2.2, ?_⟩)
          rw [Nat.lcm_one_left]
          exact h.now (.int _) es
    · exact h.elim
  · exact h.elim
end Dn

set_option Elab.async false
set_option linter.all false
set_option maxRecDepth 100000
set_option maxHeartbeats 4000000
/-! sorted of tuples that are told apart by their first two ints; of ints. -/
namespace Sd
open PySem PySem.Spec PyProof.Rows L2 SrtO
section
variable {α β : Type}
abbrev KV (α : Type) := (Int × Int) × α
def ins (x : KV α) : List (KV α) → List (KV α)
  | [] => [x]
  | y :: l => if lexB x.1 y.1 = true then x :: y :: l else y :: ins x l
def isort : List (KV α) → List (KV α)
  | [] => []
  | x :: l => ins x (isort l)
theorem ins_perm (x : KV α) : ∀ l : List (KV α), (ins x l).Perm (x :: l)
  | [] => List.Perm.refl _
  | y :: l => by
    unfold ins
    split
    · exact List.Perm.refl _
    · exact ((ins_perm x l).cons y).trans (List.Perm.swap x y l)
theorem isort_perm : ∀ l : List (KV α), (isort l).Perm l
  | [] => List.Perm.refl _
  | x :: l => (ins_perm x (isort l)).trans ((isort_perm l).cons x)
abbrev Le (x y : KV α) : Prop := lexB y.1 x.1 = false
theorem le_lt {p q : Int × Int} (h : lexB p q = true) : lexB q p = false := by
  have a := lexB_iff.mp h
  refine lexB_no.mpr ?_
  omega
theorem le_tr {p q r : Int × Int} (h : lexB q p = false) (h' : lexB r q = false) : lexB r p = false := by
  have a := lexB_no.mp h
  have b := lexB_no.mp h'
  refine lexB_no.mpr ?_
  omega
theorem ins_sorted (x : KV α) : ∀ {l : List (KV α)}, l.Pairwise Le → (ins x l).Pairwise Le
  | [], _ => List.pairwise_singleton _ _
  | y :: l, h => by
    have hy := List.pairwise_cons.mp h
    unfold ins
    split
    · rename_i hx
      refine List.pairwise_cons.mpr ⟨fun z hz => ?_, h⟩
      rcases List.mem_cons.mp hz with e | hz
      · rw [e]
        exact le_lt hx
      · exact le_tr (le_lt hx) (hy.1 z hz)
    · rename_i hx
      refine List.pairwise_cons.mpr ⟨fun z hz => ?_, ins_sorted x hy.2⟩
      rcases List.mem_cons.mp ((ins_perm x l).mem_iff.mp hz) with e | hz
      · rw [e]
        exact Bool.eq_false_iff.mpr hx
      · exact hy.1 z hz
theorem isort_sorted : ∀ l : List (KV α), (isort l).Pairwise Le
  | [] => List.Pairwise.nil
  | x :: l => ins_sorted x (isort_sorted l)
theorem ins_cons (x y : KV α) (l : List (KV α)) : ins x (y :: l) = if lexB x.1 y.1 = true then x :: y :: l else y :: ins x l := rfl
theorem ins_map (f : α → β) (x : KV α) : ∀ l : List (KV α), (ins x l).map (fun z => (z.1, f z.2)) = ins (x.1, f x.2) (l.map fun z => (z.1, f z.2))
  | [] => rfl
  | y :: l => by
    rw [List.map_cons, ins_cons, ins_cons]
    by_cases h : lexB x.1 y.1 = true
    · rw [if_pos h, if_pos (show lexB (x.1, f x.2).1 (y.1, f y.2).1 = true from h)]
      rfl
    · rw [if_neg h, if_neg (show ¬ lexB (x.1, f x.2).1 (y.1, f y.2).1 = true from h), List.map_cons, ins_map f x l]
theorem isort_map (f : α → β) : ∀ l : List (KV α), (isort l).map (fun z => (z.1, f z.2)) = isort (l.map fun z => (z.1, f z.2))
  | [] => rfl
  | x :: l => by
    show (ins x (isort l)).map _ = ins _ _
    rw [ins_map, isort_map f l]
/-- keys told apart -/
def distinct : List (Int × Int) → Bool
  | [] => true
  | k :: ks => ks.all (fun j => !decide (j.1 = k.1 ∧ j.2 = k.2)) && distinct ks
theorem distinct_nodup : ∀ {ks : List (Int × Int)}, distinct ks = true → ks.Nodup
  | [], _ => List.nodup_nil
  | k :: ks, h => by
    unfold distinct at h
    rw [Bool.and_eq_true] at h
    refine List.nodup_cons.mpr ⟨fun hm => ?_, distinct_nodup h.2⟩
    have z := List.all_eq_true.mp h.1 k hm
    simp at z
end
/-! ### in the heap -/
def IsPre (h : Heap) (v : Value) (k : Int × Int) : Prop := ∃ a o t u r n, v = .ref a ∧ h.get? a = some o ∧ o.cls = .type "tuple" ∧ o.data = .seq (List.toArray (.int k.1 t :: .int k.2 u :: r)) n
theorem IsPre.keeps {h h' : Heap} {v : Value} {k : Int × Int} (p : IsPre h v k) (kp : ∀ b o, h.get? b = some o → o.cls = .type "tuple" → h'.get? b = some o) : IsPre h' v k := by
  obtain ⟨a, o, t, u, r, n, e, ho, hc, hd⟩ := p
  exact ⟨a, o, t, u, r, n, e, kp _ _ ho hc, hc, hd⟩
theorem IsPre.uniq {h : Heap} {v : Value} {k j : Int × Int} (p : IsPre h v k) (q : IsPre h v j) : k = j := by
  obtain ⟨a, o, t, u, r, n, e, ho, hc, hd⟩ := p
  obtain ⟨a', o', t', u', r', n', e', ho', hc', hd'⟩ := q
  rw [e] at e'
  cases e'
  rw [ho] at ho'
  cases ho'
  rw [hd] at hd'
  have z := (Data.seq.inj hd').1
  have z2 := List.toArray_inj z
  have z3 := List.cons.inj z2
  have z4 := List.cons.inj z3.2
  have i1 := (Value.int.inj z3.1).1
  have i2 := (Value.int.inj z4.1).1
  exact Prod.ext i1 i2
section
variable {prog : Program} {w : World} {A : Around} {E : Value → Shared → Prop} {s : Shared}
theorem kat_same {b : Bool} {fin : Bool} {Q : Bool → Shared → Prop} (h : Q fin s) : ∀ (l : List Value) (i : Nat), PySem.W.KatLex prog w A b fin Q (l.zip l) i s
  | [], i => PySem.W.kat_nil h
  | v :: l, i => PySem.W.kat_cons (SeqAt.EqAt.same v prog w _ _ (PySem.W.kat_yes (kat_same h l (i + 1))))
theorem pre_cmp {vs : List Value} {k : Value → Int × Int} (hp : ∀ v ∈ vs, IsPre s.heap v (k v)) (hi : ∀ v ∈ vs, ∀ u ∈ vs, k v = k u → v = u) : Cmp prog w A s (tuples' true) (fun p => p.1 ∈ vs) (lt2 fun v u => lexB (k v) (k u)) := by
  intro p q hm hm'
  have h1 := hp _ hm
  have h2 := hp _ hm'
  have h3 := hi _ hm _ hm'
  show wpAny (model prog w) A (keyLt' (tuples' true) p.1 q.1) (fun r s' => s' = s ∧ r = lexB (k p.1) (k q.1)) (fun _ _ => False) s
  by_cases e : p.1 = q.1
  · rw [e] at h1 ⊢
    obtain ⟨a, o, t, u, r, n, e1, ho, hc, hd⟩ := h2
    rw [e1]
    refine PySem.W.kat_lt ho hd ho hd (kat_same ⟨rfl, ?_⟩ _ 0)
    have z : lexB (k (Value.ref a)) (k (Value.ref a)) = false := lexB_no.mpr (by omega)
    rw [z]
    exact decide_eq_false (Nat.lt_irrefl _)
  · have hne : ¬ (k p.1 = k q.1) := fun z => e (h3 z)
    unfold lexB
    obtain ⟨a, o, t, u, r, n, e1, ho, hc, hd⟩ := h1
    obtain ⟨a', o', t', u', r', n', e1', ho', hc', hd'⟩ := h2
    generalize k p.1 = kp at *
    generalize k q.1 = kq at *
    obtain ⟨x, y⟩ := kp
    obtain ⟨x', y'⟩ := kq
    rw [e1, e1']
    refine PySem.W.kat_lt ho hd ho' hd' ?_
    show PySem.W.KatLex prog w A true _ _ ((.int x t, .int x' t') :: (.int y u, .int y' u') :: r.zip r') 0 s
    refine PySem.W.kat_cons (SeqAt.EqAt.int_int x t x' t' prog w _ _ ?_)
    refine PySem.W.kat_go (fun e1 => ?_) (fun e1 => ?_)
    · have ex : x = x' := by simpa using e1
      refine PySem.W.kat_yes (PySem.W.kat_cons (SeqAt.EqAt.int_int y u y' u' prog w _ _ ?_))
      refine PySem.W.kat_go (fun e2 => ?_) (fun e2 => ?_)
      · exfalso
        have ey : y = y' := by simpa using e2
        exact hne (by rw [ex, ey])
      · have e3 : (if x = x' then decide (y < y') else decide (x < x')) = decide (y < y') := if_pos ex
        refine PySem.W.kat_no (PySem.W.kat_one _ _ (PyProof.Rows.lt_int ?_))
        exact (show s = s ∧ decide (y < y') = (if x = x' then decide (y < y') else decide (x < x')) from ⟨rfl, e3.symm⟩)
    · have ex : ¬ x = x' := by simpa using e1
      have e3 : (if x = x' then decide (y < y') else decide (x < x')) = decide (x < x') := if_neg ex
      exact PySem.W.kat_no (oneLt_int ⟨rfl, e3.symm⟩)
theorem pre_firsts {h : Heap} : ∀ {vs : List Value}, (∀ v ∈ vs, ∃ k, IsPre h v k) → ∃ fs : List Value, PySem.W.KatTups h vs fs ∧ fs.length = vs.length ∧ ∀ f ∈ fs, ∃ x t, f = Value.int x t
  | [], _ => ⟨[], PySem.W.KatTups.nil, rfl, fun _ hm => by simp at hm⟩
  | v :: vs, hp => by
    obtain ⟨fs, h1, h2, h3⟩ := pre_firsts (vs := vs) fun v' hm => hp v' (List.mem_cons_of_mem _ hm)
    obtain ⟨k, a, o, t, u, r, n, e, ho, hc, hd⟩ := hp v (List.mem_cons_self ..)
    subst e
    refine ⟨.int k.1 t :: fs, PySem.W.KatTups.cons ho hc hd rfl h1, by rw [List.length_cons, List.length_cons, h2], fun f hm => ?_⟩
    rcases List.mem_cons.mp hm with rfl | hm
    · exact ⟨k.1, t, rfl⟩
    · exact h3 f hm
theorem pre_sortable {a : Addr} {vs : List Value} {k : Value → Int × Int} (h0 : 0 < vs.length) (hp : ∀ v ∈ vs, IsPre s.heap v (k v)) (hi : ∀ v ∈ vs, ∀ u ∈ vs, k v = k u → v = u) (ha : ∀ o, s.heap.get? a = some o → o.cls ≠ .type "tuple") : SortableO prog w A s a vs fun v u => lexB (k v) (k u) := by
  intro h' keep
  have hp' : ∀ v ∈ vs, IsPre h' v (k v) := fun v hm => (hp v hm).keeps fun b o e c => keep b o (fun z => by subst z; exact ha o e c) e
  obtain ⟨fs, h1, h2, h3⟩ := pre_firsts fun v hm => ⟨_, hp' v hm⟩
  refine ⟨tuples' true, fun Q E hq => ?_, pre_cmp hp' hi⟩
  refine PySem.W.kat_kind (T := .type "int") h1 (by omega) (fun f hm => ?_) (by rfl) ?_
  · obtain ⟨x, t, rfl⟩ := h3 f hm
    exact PySem.W.Looks.now
  · have e : (Value.type "int" != Value.type "tuple") = true := by first | decide +kernel | rfl | decide
    rw [e]
    exact hq
theorem sorted_pre {l : Addr} {vs : List Value} {k : Value → Int × Int} {Q : Value → Shared → Prop} (hl : s.heap.IsList l vs.toArray) (hz : vs.length ≤ sizeLine) (hp : ∀ v ∈ vs, IsPre s.heap v (k v)) (hi : ∀ v ∈ vs, ∀ u ∈ vs, k v = k u → v = u)
    (h : ∀ (h' : Heap) (d : Addr) (out : List Value), Srtd (fun v u => lexB (k v) (k u)) out → Stb (fun v u => lexB (k v) (k u)) out vs → (∀ b o, s.heap.get? b = some o → h'.get? b = some o) → s.heap.objs.size ≤ d → (∃ n, h'.get? d = some (seqObj "list" out.toArray n)) → Q (.ref d) { s with heap := h' }) :
    wpAny (model prog w) A (call (.builtin "sorted") [.ref l]) Q E s := by
  refine sorted_ord (swo_lex k) hl hz (fun h2 h₁ a ha kk => ?_) fun out hs hb => ?_
  · refine pre_sortable (s := { s with heap := h₁ }) (by omega) (fun v hm => (hp v hm).keeps fun b o e _ => (kk b o e).2) hi fun o e => ?_
    have e' : some o = some (seqObj "list" vs.toArray 0) := e.symm.trans ha
    cases e'
    intro c
    exact absurd (Value.type.inj c) (by decide)
  · exact h _ _ out hs hb (fun b o e => sortedAll_old e) (Nat.le_succ _) (sortedAll_at s.heap vs out.toArray)
end
/-! ### as a rule -/
section
variable {X : Cx}
/-- sorted(xs), xs tuples that begin with two ints, told apart by them: these ints are ks -/
def rSortedPre (K : PySem.W.Frag) : List V → Hp → VK → Prop := fun vs H Q => ∃ (a : Addr) (xs : List V) (ks : List (Int × Int)), vs = [V.ref a] ∧ SqL K H a xs ∧ ks.length = xs.length ∧ ks.Nodup ∧
  (∀ z ∈ ks.zip xs, ∃ (t : Addr) (r : List V), z.2 = V.ref t ∧ SqT K H t (.int z.1.1 :: .int z.1.2 :: r)) ∧ ∀ p, H p = none → Q (.ref p) (upd H p (.lst ((isort (ks.zip xs)).map (·.2))))
theorem zip_fst {α β : Type} : ∀ {ks : List α} {xs : List β}, ks.length = xs.length → (ks.zip xs).map (·.1) = ks
  | [], [], _ => rfl
  | [], _ :: _, h => by cases h
  | _ :: _, [], h => by cases h
  | k :: ks, x :: xs, h => by
    show k :: (ks.zip xs).map (·.1) = k :: ks
    rw [zip_fst (by simpa using h)]
theorem zip_snd {α β : Type} : ∀ {ks : List α} {xs : List β}, ks.length = xs.length → (ks.zip xs).map (·.2) = xs
  | [], [], _ => rfl
  | [], _ :: _, h => by cases h
  | _ :: _, [], h => by cases h
  | k :: ks, x :: xs, h => by
    show x :: (ks.zip xs).map (·.2) = x :: xs
    rw [zip_snd (by simpa using h)]
theorem zip_key {α β : Type} {ks : List α} {xs : List β} (hl : ks.length = xs.length) (nd : ks.Nodup) {k : α} {x y : β} (h : (k, x) ∈ ks.zip xs) (h' : (k, y) ∈ ks.zip xs) : x = y := by
  have n2 : ((ks.zip xs).map (·.1)).Nodup := by rw [zip_fst hl]; exact nd
  obtain ⟨i, hi⟩ := List.getElem?_of_mem h
  obtain ⟨j, hj⟩ := List.getElem?_of_mem h'
  have e1 : ((ks.zip xs).map (·.1))[i]? = some k := by rw [List.getElem?_map, hi]; rfl
  have e2 : ((ks.zip xs).map (·.1))[j]? = some k := by rw [List.getElem?_map, hj]; rfl
  obtain ⟨q1, p1⟩ := List.getElem?_eq_some_iff.mp e1
  obtain ⟨q2, p2⟩ := List.getElem?_eq_some_iff.mp e2
  have ij : i = j := (List.getElem_inj n2).mp (p1.trans p2.symm)
  subst ij
  rw [hi] at hj
  cases hj
  rfl
theorem zip_ex {α β : Type} {ks : List α} {xs : List β} (hl : ks.length = xs.length) {x : β} (h : x ∈ xs) : ∃ k, (k, x) ∈ ks.zip xs := by
  have : x ∈ (ks.zip xs).map (·.2) := by rw [zip_snd hl]; exact h
  obtain ⟨z, hz, rfl⟩ := List.mem_map.mp this
  exact ⟨z.1, hz⟩
theorem cr_sortedPre : CallR X (.builtin "sorted") (rSortedPre X.K) := by
  intro pins s σ H vs us Q I r h
  obtain ⟨a, xs, ks, rfl, hs, hl, nd, hx, q⟩ := h
  obtain ⟨its, rv, hli, hz⟩ := I.list hs
  obtain ⟨u, rfl, ru⟩ := vals1 r
  obtain rfl : u = Value.ref a := ru
  obtain ⟨e1, e2⟩ := refs_back rv fun x m => by
    obtain ⟨k, hk⟩ := zip_ex hl m
    obtain ⟨t, _, e, _⟩ := hx _ hk
    exact ⟨t, e⟩
  have hlen : ks.length = its.length := by rw [hl, rv.length]
  -- the key of a value
  have pre : ∀ z ∈ ks.zip its, IsPre s.heap z.2 z.1 := fun z hz => by
    have hz2 : (z.1, backV z.2) ∈ ks.zip xs := by
      rw [e1, List.zip_map_right]
      exact List.mem_map.mpr ⟨z, hz, rfl⟩
    obtain ⟨t, r, e, ht⟩ := hx _ hz2
    obtain ⟨t', e'⟩ := e2 z.2 (by
      have : z.2 ∈ (ks.zip its).map (·.2) := List.mem_map.mpr ⟨z, hz, rfl⟩
      rw [zip_snd hlen] at this
      exact this)
    rw [e'] at e
    have et : t' = t := by cases e; rfl
    subst et
    obtain ⟨its2, r2, p2, _⟩ := I.tuple ht
    obtain ⟨o, ho, hc, n, hd⟩ := (show s.heap.IsTuple t' its2.toArray from p2)
    cases r2 with
    | cons r1 r2 =>
      cases r2 with
      | cons r3 r4 =>
        obtain ⟨t1, rfl⟩ := r1
        obtain ⟨t2, rfl⟩ := r3
        exact ⟨t', o, t1, t2, _, n, e', ho, hc, hd⟩
  obtain ⟨k, hk⟩ : ∃ k : Value → Int × Int, ∀ z ∈ ks.zip its, k z.2 = z.1 := by
    refine ⟨fun v => @dite _ (∃ kk, IsPre s.heap v kk) (Classical.propDecidable _) (fun h => Classical.choose h) (fun _ => (0, 0)), fun z hz => ?_⟩
    have hz' : ∃ kk, IsPre s.heap z.2 kk := ⟨z.1, pre z hz⟩
    show @dite _ (∃ kk, IsPre s.heap z.2 kk) (Classical.propDecidable _) (fun h => Classical.choose h) (fun _ => (0, 0)) = z.1
    rw [dif_pos hz']
    exact (Classical.choose_spec hz').uniq (pre z hz)
  have hp : ∀ v ∈ its, IsPre s.heap v (k v) := fun v hv => by
    obtain ⟨kk, hz⟩ := zip_ex hlen hv
    have e := hk _ hz
    dsimp only at e
    rw [e]
    exact pre _ hz
  have hi : ∀ v ∈ its, ∀ u ∈ its, k v = k u → v = u := fun v hv u hu e => by
    obtain ⟨kk, hz⟩ := zip_ex hlen hv
    obtain ⟨kj, hz'⟩ := zip_ex hlen hu
    have e1 := hk _ hz
    have e2 := hk _ hz'
    dsimp only at e1 e2
    have : kk = kj := by rw [← e1, ← e2, e]
    subst this
    exact zip_key hlen nd hz hz'
  refine sorted_pre (k := k) hli.isList (by rw [← rv.length]; exact hz) hp hi fun h' d out h1 h2 kp hd hn => ?_
  have eo : out = (isort (ks.zip its)).map (·.2) := by
    have p1 : ((isort (ks.zip its)).map (·.2)).Perm its := by
      have z := (isort_perm (ks.zip its)).map (·.2)
      rw [zip_snd hlen] at z
      exact z
    refine List.Perm.eq_of_pairwise (le := fun x y => lexB (k y) (k x) = false) (fun x y hx hy a b => ?_) h1 ?_ (h2.perm.trans p1.symm)
    · refine hi x (h2.perm.mem_iff.mp hx) y (p1.mem_iff.mp hy) ?_
      have a' := lexB_no.mp a
      have b' := lexB_no.mp b
      refine Prod.ext ?_ ?_ <;> omega
    · rw [List.pairwise_map]
      refine List.Pairwise.imp_of_mem (fun {x y} hx hy h => ?_) (isort_sorted (ks.zip its))
      have ex := hk x ((isort_perm _).mem_iff.mp hx)
      have ey := hk y ((isort_perm _).mem_iff.mp hy)
      rw [ex, ey]
      exact h
  have h3 : ∀ u ∈ out, ∃ a, u = Value.ref a := fun u hu => e2 u (h2.perm.mem_iff.mp hu)
  obtain ⟨n, hn⟩ := hn
  have eb : out.map backV = (isort (ks.zip xs)).map (·.2) := by
    rw [eo, List.map_map]
    have z := isort_map backV (ks.zip its)
    have z2 : (ks.zip its).map (fun z => (z.1, backV z.2)) = ks.zip xs := by
      rw [e1, List.zip_map_right]
      rfl
    rw [z2] at z
    rw [← z, List.map_map]
    rfl
  have hln : (out.map backV).length ≤ sizeLine := by
    rw [List.length_map, h2.len, ← rv.length]
    exact hz
  refine ⟨.ref d, upd H d (.lst (out.map backV)), I.laid (t' := s.toks) kp hd ⟨hln, out, n, vals_back h3, hn⟩, rfl, ?_⟩
  rw [eb]
  exact q d (I.hok.fresh hd)
end
end Sd
namespace Dn
open PySem PySem.Spec PyProof.Rows L2 SrtO Sd
def preK : D → Option (Int × Int)
  | .tup (.int i :: .int j :: _) => some (i, j)
  | _ => none
def preKs : List D → Option (List (Int × Int))
  | [] => some []
  | d :: ds => match preK d, preKs ds with
    | some k, some ks => some (k :: ks)
    | _, _ => none
theorem preK_of {d : D} {k : Int × Int} (h : preK d = some k) : ∃ r, d = .tup (.int k.1 :: .int k.2 :: r) := by
  unfold preK at h
  split at h
  · cases h
    exact ⟨_, rfl⟩
  · cases h
theorem preKs_of : ∀ {ds : List D} {ks : List (Int × Int)}, preKs ds = some ks → ks.length = ds.length ∧ ∀ z ∈ ks.zip ds, preK z.2 = some z.1
  | [], ks, h => by
    cases h
    exact ⟨rfl, fun z hz => nomatch hz⟩
  | d :: ds, ks, h => by
    unfold preKs at h
    cases e1 : preK d with
    | none => rw [e1] at h; cases h
    | some k =>
      cases e2 : preKs ds with
      | none => rw [e1, e2] at h; cases h
      | some js =>
        rw [e1, e2] at h
        cases h
        obtain ⟨h1, h2⟩ := preKs_of e2
        refine ⟨by rw [List.length_cons, List.length_cons, h1], fun z hz => ?_⟩
        rcases List.mem_cons.mp hz with e | hz
        · rw [e]
          exact e1
        · exact h2 z hz
def isortI : List Int → List Int := fun ns => (isort (ns.map fun n => ((n, 0), n))).map (·.2)
def sortPreD (ds : List D) : Option (List D) := match preKs ds with
  | some ks => if distinct ks = true then some ((isort (ks.zip ds)).map (·.2)) else none
  | none => none
def sortD : FN := fun xs st => match lstOf st xs with
  | some ds => match sortPreD ds with
    | some es => .ok (.ref st.length) (st ++ [.lst es])
    | none => .no
  | none => .no
section
variable {K : PySem.W.Frag} {G : Gx} {H : Hp} {ρ : List Addr}
/-- two lists of pairs, alike but for data and their values -/
inductive EVk (K : PySem.W.Frag) (H : Hp) (ρ : List Addr) : List (KV D) → List (KV V) → Prop
  | nil : EVk K H ρ [] []
  | cons {k : Int × Int} {d : D} {v : V} {ds : List (KV D)} {vs : List (KV V)} : EV K H ρ d v → EVk K H ρ ds vs → EVk K H ρ ((k, d) :: ds) ((k, v) :: vs)
theorem evk_zip : ∀ {ks : List (Int × Int)} {ds : List D} {vs : List V}, EVs K H ρ ds vs → EVk K H ρ (ks.zip ds) (ks.zip vs)
  | [], _, _, _ => by rw [List.zip_nil_left, List.zip_nil_left]; exact .nil
  | _ :: _, [], _, h => by cases h; exact .nil
  | _ :: _, _ :: _, _, h => by
    cases h with
    | cons a b => exact .cons a (evk_zip b)
theorem evk_ins {k : Int × Int} {d : D} {v : V} (h : EV K H ρ d v) : ∀ {ds : List (KV D)} {vs : List (KV V)}, EVk K H ρ ds vs → EVk K H ρ (ins (k, d) ds) (ins (k, v) vs)
  | _, _, .nil => .cons h .nil
  | _, _, @EVk.cons _ _ _ j e w ds vs a b => by
    rw [ins_cons, ins_cons]
    by_cases q : lexB k j = true
    · rw [if_pos (show lexB (k, d).1 (j, e).1 = true from q), if_pos (show lexB (k, v).1 (j, w).1 = true from q)]
      exact .cons h (.cons a b)
    · rw [if_neg (show ¬ lexB (k, d).1 (j, e).1 = true from q), if_neg (show ¬ lexB (k, v).1 (j, w).1 = true from q)]
      exact .cons a (evk_ins h b)
theorem evk_sort : ∀ {ds : List (KV D)} {vs : List (KV V)}, EVk K H ρ ds vs → EVk K H ρ (isort ds) (isort vs)
  | _, _, .nil => .nil
  | _, _, .cons a b => evk_ins a (evk_sort b)
theorem evk_snd : ∀ {ds : List (KV D)} {vs : List (KV V)}, EVk K H ρ ds vs → EVs K H ρ (ds.map (·.2)) (vs.map (·.2))
  | _, _, .nil => .nil
  | _, _, .cons a b => .cons a (evk_snd b)
theorem evk_get : ∀ {ds : List (KV D)} {vs : List (KV V)}, EVk K H ρ ds vs → ∀ z ∈ vs, ∃ d, (z.1, d) ∈ ds ∧ EV K H ρ d z.2
  | _, _, .nil, z, hz => nomatch hz
  | _, _, .cons a b, z, hz => by
    rcases List.mem_cons.mp hz with e | hz
    · subst e
      exact ⟨_, List.mem_cons_self, a⟩
    · obtain ⟨d, h1, h2⟩ := evk_get b z hz
      exact ⟨d, List.mem_cons_of_mem _ h1, h2⟩
theorem cs_sort : CallS K G (rSortedPre K) sortD := by
  intro xs vs ρ st H Q e es h
  unfold sortD at h
  split at h
  · rename_i ds q
    split at h
    · rename_i es' q2
      unfold sortPreD at q2
      split at q2
      · rename_i ks q3
        split at q2
        · rename_i hd
          cases q2
          obtain ⟨a, ws, rfl, h1, h2⟩ := e.lst es q
          obtain ⟨p1, p2⟩ := preKs_of q3
          have ez := evk_zip (ks := ks) h2
          refine ⟨a, ws, ks, rfl, h1, by rw [p1, h2.length], distinct_nodup hd, fun z hz => ?_, fun p hp => ?_⟩
          · obtain ⟨d, g1, g2⟩ := evk_get ez z hz
            obtain ⟨r, er⟩ := preK_of (p2 _ g1)
            dsimp only at er
            rw [er] at g2
            obtain ⟨t, us, g3, g4, g5⟩ := g2.ofTup
            cases g5 with
            | cons i1 g5 =>
              cases g5 with
              | cons i2 g5 =>
                cases i1
                cases i2
                exact ⟨t, _, g3, g4⟩
          · exact newL h (evk_snd (evk_sort ez)) es p hp
        · cases q2
      · cases q2
    · exact h.elim
  · exact h.elim
end
end Dn

set_option Elab.async false
set_option linter.all false
set_option maxRecDepth 100000
set_option maxHeartbeats 4000000
/-! Comprehensions and loops run, in general. -/
namespace Dn
open PySem L2
variable {st : Sto}
theorem set_at (st : Sto) (a b : Cell) (l : Sto) : (st ++ a :: l).set st.length b = st ++ b :: l := by
  rw [List.set_append_right _ _ (Nat.le_refl _), Nat.sub_self]
  rfl
/-- a comprehension without a test; what the element makes grows the store -/
theorem lc_gen {fd : Feed} {ds : List D} {v : Nat} {env : Ev} {e : ME} {g : D → D} (hfd : ∀ l i, fd i (st ++ l) = some ds[i]?) (hz : ds.length ≤ 99999)
    (he : ∀ d ∈ ds, ∀ l, ∃ l', e (env.set v (some d)) (st ++ l) = .ok (g d) (st ++ (l ++ l'))) : ∀ (n i : Nat) (l : Sto), i + n = ds.length →
    ∃ l', lcGo fd [v] (mName v) tYesD e st.length n i env (st ++ .lst ((ds.take i).map g) :: l) = .ok (.ref st.length) (st ++ .lst (ds.map g) :: l') := by
  intro n
  induction n with
  | zero =>
    intro i l hi
    have ei : i = ds.length := by omega
    subst ei
    have hf := hfd (.lst (ds.map g) :: l) ds.length
    rw [List.getElem?_eq_none (Nat.le_refl _)] at hf
    rw [List.take_length]
    refine ⟨l, ?_⟩
    simp only [lcGo, hf]
  | succ n ih =>
    intro i l hi
    have hlt : i < ds.length := by omega
    have hf := hfd (.lst ((ds.take i).map g) :: l) i
    rw [List.getElem?_eq_getElem hlt] at hf
    obtain ⟨l1, k1⟩ := he ds[i] (List.getElem_mem hlt) (.lst ((ds.take i).map g) :: l)
    obtain ⟨l2, k2⟩ := ih (i + 1) (l ++ l1) (by omega)
    have et : ds.take (i + 1) = ds.take i ++ [ds[i]] := by
      rw [List.take_add_one, List.getElem?_eq_getElem hlt]
      rfl
    rw [et, List.map_append, List.map_singleton] at k2
    have hl : ((ds.take i).map g).length < 100000 := by
      rw [List.length_map, List.length_take]
      omega
    rw [List.cons_append] at k1
    have hget : (st ++ (Cell.lst ((ds.take i).map g) :: (l ++ l1)))[st.length]? = some (.lst ((ds.take i).map g)) := by rw [at_0]; rfl
    refine ⟨l2, ?_⟩
    rw [← k2]
    simp only [lcGo, hf, mName, R.noEr_ok, R.bind_ok, tYesD, ↓reduceIte, k1, hget, hl, set_at]
theorem dLc_gen {it : MI} {fd : Feed} {ds : List D} {v : Nat} {env env' : Ev} {e : ME} {g : D → D} (hit : it env st = .ok (fd, ds.length) st) (hw : wipeD env [v] = env' := by rfl) (hfd : ∀ l i, fd i (st ++ l) = some ds[i]?) (hz : ds.length ≤ 99999)
    (he : ∀ d ∈ ds, ∀ l, ∃ l', e (env'.set v (some d)) (st ++ l) = .ok (g d) (st ++ (l ++ l'))) : ∃ l', dLc it [v] (mName v) tYesD e env st = .ok (.ref st.length) (st ++ .lst (ds.map g) :: l') := by
  obtain ⟨l', k⟩ := lc_gen hfd hz he ds.length 0 [] (by omega)
  refine ⟨l', ?_⟩
  subst hw
  unfold dLc
  rw [hit]
  exact k
theorem seq_feed (ds : List D) (st : Sto) : ∀ (l : Sto) (i : Nat), seqFeed ds i (st ++ l) = some ds[i]? := fun _ _ => rfl
end Dn

set_option Elab.async false
set_option linter.all false
set_option maxRecDepth 100000
set_option maxHeartbeats 4000000
/-! Plain tuples compared. -/
namespace Dn
open PySem L2
mutual
def D.dat : D → PyData
  | .non => .none
  | .bl b => .bool b
  | .int i => .int i
  | .str s => .str s
  | .tup ds => .tuple (D.datAll ds)
  | _ => .none
def D.datAll : List D → List PyData
  | [] => []
  | d :: ds => d.dat :: D.datAll ds
end
mutual
/-- plain data, n deep at the most -/
def D.eo : D → Nat → Bool
  | .non, _ => true
  | .bl _, _ => true
  | .int _, _ => true
  | .str s, _ => PyData.canLay0 (.str s)
  | .tup ds, n + 1 => D.eoAll ds n
  | _, _ => false
def D.eoAll : List D → Nat → Bool
  | [], _ => true
  | d :: ds, n => d.eo n && D.eoAll ds n
end
mutual
theorem eo_py : ∀ (d : D) (n : Nat), d.eo n = true → d.pyN = some d.dat ∧ d.dat.canLay0 = true ∧ d.dat.depth ≤ n + 1
  | .non, n, _ => ⟨rfl, rfl, by simp [D.dat, PyData.depth]⟩
  | .bl b, n, _ => ⟨rfl, rfl, by simp [D.dat, PyData.depth]⟩
  | .int i, n, _ => ⟨rfl, rfl, by simp [D.dat, PyData.depth]⟩
  | .str s, n, h => ⟨rfl, h, by simp [D.dat, PyData.depth]⟩
  | .tup ds, 0, h => by cases h
  | .tup ds, n + 1, h => by
    obtain ⟨h1, h2, h3⟩ := eo_pyAll ds n (by unfold D.eo at h; exact h)
    refine ⟨?_, ?_, ?_⟩
    · unfold D.pyN D.dat
      rw [h1]
      rfl
    · unfold D.dat PyData.canLay0
      exact h2
    · unfold D.dat PyData.depth
      omega
  | .ref _, n, h => by cases n <;> cases h
  | .ty _, n, h => by cases n <;> cases h
  | .ob _, n, h => by cases n <;> cases h
  | .kl _, n, h => by cases n <;> cases h
theorem eo_pyAll : ∀ (ds : List D) (n : Nat), D.eoAll ds n = true → D.pyAll ds = some (D.datAll ds) ∧ PyData.canLayAll0 (D.datAll ds) = true ∧ PyData.depthAll (D.datAll ds) ≤ n + 1
  | [], n, _ => ⟨rfl, rfl, by simp [D.datAll, PyData.depthAll]⟩
  | d :: ds, n, h => by
    unfold D.eoAll at h
    have h' := (Bool.and_eq_true _ _).mp h
    obtain ⟨a1, a2, a3⟩ := eo_py d n h'.1
    obtain ⟨b1, b2, b3⟩ := eo_pyAll ds n h'.2
    refine ⟨?_, ?_, ?_⟩
    · unfold D.pyAll D.datAll
      rw [a1, b1]
    · unfold D.datAll PyData.canLayAll0
      rw [a2, b2]
      rfl
    · unfold D.datAll PyData.depthAll
      omega
end
theorem eo_shaped {d : D} {n : Nat} (h : d.eo n = true) (hn : n ≤ 60) : SeqAt.shaped d.dat = true := by
  obtain ⟨_, h2, h3⟩ := eo_py d n h
  unfold SeqAt.shaped
  rw [h2, Bool.true_and]
  exact decide_eq_true (by omega)
def eqvT (a b : List D) : Bool := PyData.eqv (.tuple (D.datAll a)) (.tuple (D.datAll b))
theorem eqv_tup {a b : List D} {n m : Nat} (ha : D.eo (.tup a) n = true) (hb : D.eo (.tup b) m = true) (hn : n ≤ 60) (hm : m ≤ 60) (st : Sto) : eqvD (.tup a) (.tup b) st = some (eqvT a b) := by
  have e1 : (D.tup a).py st = some (D.tup a).dat := (eo_py _ n ha).1
  have e2 : (D.tup b).py st = some (D.tup b).dat := (eo_py _ m hb).1
  have s1 := eo_shaped ha hn
  have s2 := eo_shaped hb hm
  have e0 : scalD (.tup a) (.tup b) = none := rfl
  unfold eqvD
  rw [e0, e1, e2]
  dsimp only
  rw [if_pos ⟨s1, s2⟩]
  rfl
theorem eq_tup {a b : List D} {n m : Nat} (ha : D.eo (.tup a) n = true) (hb : D.eo (.tup b) m = true) (hn : n ≤ 60 := by decide) (hm : m ≤ 60 := by decide) (st : Sto) : eqD (.tup a) (.tup b) st = .ok (.bl (eqvT a b)) st := by
  unfold eqD
  rw [eqv_tup ha hb hn hm]
theorem ne_tup {a b : List D} {n m : Nat} (ha : D.eo (.tup a) n = true) (hb : D.eo (.tup b) m = true) (hn : n ≤ 60 := by decide) (hm : m ≤ 60 := by decide) (st : Sto) : neD (.tup a) (.tup b) st = .ok (.bl (!eqvT a b)) st := by
  unfold neD
  rw [eqv_tup ha hb hn hm]
theorem eqvT_refl {a : List D} {n : Nat} (ha : D.eo (.tup a) n = true) : eqvT a a = true := PySem.SeqAt.eqv_refl _ (eo_py _ n ha).2.1
theorem ne_self {a : List D} {n : Nat} (ha : D.eo (.tup a) n = true) (hn : n ≤ 60 := by decide) (st : Sto) : neD (.tup a) (.tup a) st = .ok (.bl false) st := by
  rw [ne_tup ha ha hn hn, eqvT_refl ha]
  rfl
theorem eq_self {a : List D} {n : Nat} (ha : D.eo (.tup a) n = true) (hn : n ≤ 60 := by decide) (st : Sto) : eqD (.tup a) (.tup a) st = .ok (.bl true) st := by
  rw [eq_tup ha ha hn hn, eqvT_refl ha]
theorem eoAll_of {ds : List D} {n : Nat} (h : ∀ d ∈ ds, d.eo n = true) : D.eoAll ds n = true := by
  induction ds with
  | nil => rfl
  | cons d r ih =>
    unfold D.eoAll
    rw [h d List.mem_cons_self, ih fun x hx => h x (List.mem_cons_of_mem _ hx)]
    rfl
end Dn

set_option Elab.async false
set_option linter.all false
set_option maxRecDepth 100000
set_option maxHeartbeats 4000000
/-! Plain tuples without booleans: equal just if they are the same. -/
namespace Dn
open PySem L2
mutual
def D.pu : D → Bool
  | .non => true
  | .int _ => true
  | .str _ => true
  | .tup ds => D.puAll ds
  | _ => false
def D.puAll : List D → Bool
  | [] => true
  | d :: ds => d.pu && D.puAll ds
end
theorem puAll_of {ds : List D} (h : ∀ d ∈ ds, d.pu = true) : D.puAll ds = true := by
  induction ds with
  | nil => rfl
  | cons d r ih =>
    unfold D.puAll
    rw [h d List.mem_cons_self, ih fun x hx => h x (List.mem_cons_of_mem _ hx)]
    rfl
mutual
theorem eqv_pu : ∀ {a b : D}, a.pu = true → b.pu = true → (PyData.eqv a.dat b.dat = true ↔ a = b)
  | .non, .non, _, _ => by simp [D.dat, PyData.eqv]
  | .non, .int _, _, _ => by simp [D.dat, PyData.eqv]
  | .non, .str _, _, _ => by simp [D.dat, PyData.eqv]
  | .non, .tup _, _, _ => by simp [D.dat, PyData.eqv]
  | .int _, .non, _, _ => by simp [D.dat, PyData.eqv]
  | .int _, .int _, _, _ => by simp [D.dat, PyData.eqv]
  | .int _, .str _, _, _ => by simp [D.dat, PyData.eqv]
  | .int _, .tup _, _, _ => by simp [D.dat, PyData.eqv]
  | .str _, .non, _, _ => by simp [D.dat, PyData.eqv]
  | .str _, .int _, _, _ => by simp [D.dat, PyData.eqv]
  | .str _, .str _, _, _ => by simp [D.dat, PyData.eqv]
  | .str _, .tup _, _, _ => by simp [D.dat, PyData.eqv]
  | .tup _, .non, _, _ => by simp [D.dat, PyData.eqv]
  | .tup _, .int _, _, _ => by simp [D.dat, PyData.eqv]
  | .tup _, .str _, _, _ => by simp [D.dat, PyData.eqv]
  | .tup as, .tup bs, ha, hb => by
    have := eqv_puAll (as := as) (bs := bs) (by unfold D.pu at ha; exact ha) (by unfold D.pu at hb; exact hb)
    unfold D.dat PyData.eqv
    rw [this, D.tup.injEq]
  | .bl _, _, h, _ => by cases h
  | .ref _, _, h, _ => by cases h
  | .ty _, _, h, _ => by cases h
  | .kl _, _, h, _ => by cases h
  | .ob _, _, h, _ => by cases h
  | _, .bl _, _, h => by cases h
  | _, .ref _, _, h => by cases h
  | _, .ty _, _, h => by cases h
  | _, .kl _, _, h => by cases h
  | _, .ob _, _, h => by cases h
theorem eqv_puAll : ∀ {as bs : List D}, D.puAll as = true → D.puAll bs = true → (PyData.eqvAll (D.datAll as) (D.datAll bs) = true ↔ as = bs)
  | [], [], _, _ => by simp [D.datAll, PyData.eqvAll]
  | [], _ :: _, _, _ => by simp [D.datAll, PyData.eqvAll]
  | _ :: _, [], _, _ => by simp [D.datAll, PyData.eqvAll]
  | a :: as, b :: bs, ha, hb => by
    unfold D.puAll at ha hb
    have ha' := (Bool.and_eq_true _ _).mp ha
    have hb' := (Bool.and_eq_true _ _).mp hb
    unfold D.datAll PyData.eqvAll
    rw [Bool.and_eq_true, eqv_pu ha'.1 hb'.1, eqv_puAll ha'.2 hb'.2, List.cons.injEq]
end
theorem eqvT_pu {a b : List D} (ha : D.puAll a = true) (hb : D.puAll b = true) : eqvT a b = true ↔ a = b := by
  unfold eqvT
  show PyData.eqvAll _ _ = true ↔ _
  exact eqv_puAll ha hb
theorem eq_pu_t {a b : List D} {n m : Nat} (ha : D.eo (.tup a) n = true) (hb : D.eo (.tup b) m = true) (pa : D.puAll a = true) (pb : D.puAll b = true) (e : a = b) (st : Sto) (hn : n ≤ 60 := by decide) (hm : m ≤ 60 := by decide) : eqD (.tup a) (.tup b) st = .ok (.bl true) st := by
  rw [eq_tup ha hb hn hm, (eqvT_pu pa pb).mpr e]
theorem eq_pu_f {a b : List D} {n m : Nat} (ha : D.eo (.tup a) n = true) (hb : D.eo (.tup b) m = true) (pa : D.puAll a = true) (pb : D.puAll b = true) (e : a ≠ b) (st : Sto) (hn : n ≤ 60 := by decide) (hm : m ≤ 60 := by decide) : eqD (.tup a) (.tup b) st = .ok (.bl false) st := by
  rw [eq_tup ha hb hn hm, Bool.eq_false_iff.mpr fun z => e ((eqvT_pu pa pb).mp z)]
theorem ne_pu_t {a b : List D} {n m : Nat} (ha : D.eo (.tup a) n = true) (hb : D.eo (.tup b) m = true) (pa : D.puAll a = true) (pb : D.puAll b = true) (e : a ≠ b) (st : Sto) (hn : n ≤ 60 := by decide) (hm : m ≤ 60 := by decide) : neD (.tup a) (.tup b) st = .ok (.bl true) st := by
  rw [ne_tup ha hb hn hm, Bool.eq_false_iff.mpr fun z => e ((eqvT_pu pa pb).mp z)]
  rfl
theorem ne_pu_f {a b : List D} {n m : Nat} (ha : D.eo (.tup a) n = true) (hb : D.eo (.tup b) m = true) (pa : D.puAll a = true) (pb : D.puAll b = true) (e : a = b) (st : Sto) (hn : n ≤ 60 := by decide) (hm : m ≤ 60 := by decide) : neD (.tup a) (.tup b) st = .ok (.bl false) st := by
  rw [ne_tup ha hb hn hm, (eqvT_pu pa pb).mpr e]
  rfl
end Dn

set_option Elab.async false
set_option linter.all false
set_option maxRecDepth 100000
set_option maxHeartbeats 4000000
/-! x in xs, for data at any depth. -/
namespace Dn
open PySem L2 PyProof.Rows
def rInD (K : PySem.W.Frag) (neg : Bool) : R2 := fun x y H Q => ∃ d xs, Dp K H x d ∧ (Dp K H y (.list xs) ∨ Dp K H y (.tuple xs)) ∧ d.canLay0 = true ∧ d.depth ≤ 60 ∧ PyData.canLayAll0 xs = true ∧ Q (.bl (if neg then !(xs.any fun y => PyData.eqv y d) else xs.any fun y => PyData.eqv y d)) H
section
variable {X : Cx}
theorem op_inD (hu : X.A.units + 64 < cLine) : OpR X (compareOp .In) (rInD X.K false) := by
  intro pins s σ H x y v u Q I rx ry h
  obtain ⟨d, xs, hd, hy, cd, dd, cx, q⟩ := h
  obtain ⟨as, r1⟩ := Dp.reads I d x v hd rx
  have room : X.A.units + 1 + min (PyData.depthAll xs) d.depth < cLine := by
    have := Nat.min_le_right (PyData.depthAll xs) d.depth
    omega
  rcases hy with hy | hy
  · obtain ⟨bs, r2⟩ := Dp.reads I (.list xs) y u hy ry
    exact SeqAt.in_list_reads r2 r1 cx cd room ⟨.bl _, H, I, rfl, q⟩
  · obtain ⟨bs, r2⟩ := Dp.reads I (.tuple xs) y u hy ry
    exact SeqAt.in_tuple_reads r2 r1 cx cd room ⟨.bl _, H, I, rfl, q⟩
theorem op_notInD (hu : X.A.units + 64 < cLine) : OpR X (compareOp .NotIn) (rInD X.K true) := by
  intro pins s σ H x y v u Q I rx ry h
  obtain ⟨d, xs, hd, hy, cd, dd, cx, q⟩ := h
  obtain ⟨as, r1⟩ := Dp.reads I d x v hd rx
  have room : X.A.units + 1 + min (PyData.depthAll xs) d.depth < cLine := by
    have := Nat.min_le_right (PyData.depthAll xs) d.depth
    omega
  rcases hy with hy | hy
  · obtain ⟨bs, r2⟩ := Dp.reads I (.list xs) y u hy ry
    exact SeqAt.notIn_list_reads r2 r1 cx cd room ⟨.bl _, H, I, rfl, q⟩
  · obtain ⟨bs, r2⟩ := Dp.reads I (.tuple xs) y u hy ry
    exact SeqAt.notIn_tuple_reads r2 r1 cx cd room ⟨.bl _, H, I, rfl, q⟩
def rInE (K : PySem.W.Frag) (neg : Bool) : R2 := fun x y H Q => rIn K neg x y H Q ∨ rInD K neg x y H Q
theorem op_inE (hu : X.A.units + 64 < cLine) : OpR X (compareOp .In) (rInE X.K false) := op_in_seq.or (op_inD hu)
theorem op_notInE (hu : X.A.units + 64 < cLine) : OpR X (compareOp .NotIn) (rInE X.K true) := op_notIn_seq.or (op_notInD hu)
def seqP : PyData → Option (List PyData)
  | .list xs => some xs
  | .tuple xs => some xs
  | _ => none
def dataD (neg : Bool) (x y : D) (st : Sto) : R D := match x.py st, (y.py st).bind seqP with
  | some d, some xs => if d.canLay0 = true ∧ d.depth ≤ 60 ∧ PyData.canLayAll0 xs = true then .ok (.bl (if neg then !(xs.any fun y => PyData.eqv y d) else xs.any fun y => PyData.eqv y d)) st else .no
  | _, _ => .no
/-- flat things by their own rule, all others as data -/
def memE (neg : Bool) : F2 := fun x y st => match memD neg x y st with
  | .no => dataD neg x y st
  | r => r
theorem os_memE {K : PySem.W.Frag} {G : Gx} {neg : Bool} : OpS K G (rInE K neg) (memE neg) := by
  intro x y vx vy ρ st H Q ex ey es h
  unfold memE at h
  cases q : memD neg x y st with
  | ok a st1 =>
    rw [q] at h
    exact .inl (os_mem x y vx vy ρ st H Q ex ey es (by rw [q]; exact h))
  | er n st1 =>
    rw [q] at h
    exact .inl (os_mem x y vx vy ρ st H Q ex ey es (by rw [q]; exact h))
  | no =>
    rw [q] at h
    dsimp only at h
    unfold dataD at h
    cases q1 : x.py st with
    | none => rw [q1] at h; exact h.elim
    | some d =>
      cases q2 : y.py st with
      | none => rw [q1, q2] at h; exact h.elim
      | some e =>
        rw [q1, q2] at h
        have de := dp_of ey es q2
        cases e with
        | list xs =>
          dsimp only [Option.bind, seqP] at h
          split at h
          · rename_i hc
            exact .inr ⟨d, xs, dp_of ex es q1, .inl de, hc.1, hc.2.1, hc.2.2, h.now (.bl _) es⟩
          · exact h.elim
        | tuple xs =>
          dsimp only [Option.bind, seqP] at h
          split at h
          · rename_i hc
            exact .inr ⟨d, xs, dp_of ex es q1, .inr de, hc.1, hc.2.1, hc.2.2, h.now (.bl _) es⟩
          · exact h.elim
        | _ => exact h.elim
end
theorem memD_tup {neg : Bool} {xs : List D} {y : D} {st : Sto} : memD neg (.tup xs) y st = .no := by
  unfold memD
  cases y.items st with
  | none => rfl
  | some ds =>
    dsimp only
    rw [if_neg (fun z => nomatch z.1)]
/-- plain tuples in a list or tuple of such -/
theorem datAll_any {x : D} : ∀ {ds : List D}, x.pu = true → D.puAll ds = true → (((D.datAll ds).any fun y => PyData.eqv y x.dat) = true ↔ x ∈ ds)
  | [], _, _ => by simp [D.datAll]
  | d :: ds, hx, hd => by
    unfold D.puAll at hd
    have hd' := (Bool.and_eq_true _ _).mp hd
    have ih := datAll_any (ds := ds) hx hd'.2
    unfold D.datAll
    rw [List.any_cons, Bool.or_eq_true, ih, eqv_pu hd'.1 hx, List.mem_cons]
    constructor
    · rintro (h | h)
      · exact .inl h.symm
      · exact .inr h
    · rintro (h | h)
      · exact .inl h.symm
      · exact .inr h
theorem mem_data {neg b : Bool} {xs ds : List D} {y : D} {st : Sto} {n : Nat} (hx : (D.tup xs).eo n = true) (hn : n ≤ 50) (px : (D.tup xs).pu = true) (hd : D.eoAll ds n = true) (pd : D.puAll ds = true) (hy : y = .tup ds ∨ ∃ r, y = .ref r ∧ st[r]? = some (.lst ds)) (hb : b = true ↔ D.tup xs ∈ ds) :
    memE neg (.tup xs) y st = .ok (.bl (if neg then !b else b)) st := by
  obtain ⟨a1, a2, a3⟩ := eo_py _ n hx
  obtain ⟨b1, b2, b3⟩ := eo_pyAll _ n hd
  have e1 : (D.tup xs).py st = some (D.tup xs).dat := a1
  have e2 : (y.py st).bind seqP = some (D.datAll ds) := by
    rcases hy with rfl | ⟨r, rfl, hr⟩
    · have : (D.tup ds).py st = some (.tuple (D.datAll ds)) := by
        show D.pyN (.tup ds) = _
        unfold D.pyN
        rw [b1]
        rfl
      rw [this]
      rfl
    · have hs : Sto.seq st r = some ds := by unfold Sto.seq; rw [hr]
      have : (D.ref r).py st = some (.list (D.datAll ds)) := by
        simp only [D.py, hs, b1, Option.map_some]
      rw [this]
      rfl
  have key : ((D.datAll ds).any fun y => PyData.eqv y (D.tup xs).dat) = b := by
    have := datAll_any px pd
    cases b with
    | true => exact this.mpr (hb.mp rfl)
    | false => exact Bool.eq_false_iff.mpr fun z => by cases hb.mpr (this.mp z)
  unfold memE
  rw [memD_tup]
  dsimp only
  unfold dataD
  rw [e1, e2]
  dsimp only
  rw [if_pos ⟨a2, by omega, b2⟩, key]
end Dn

set_option Elab.async false
set_option linter.all false
set_option maxRecDepth 100000
set_option maxHeartbeats 2000000
/-! zip of a tuple with a list; enumerate of a list, of a tuple. -/
namespace Dn
open PySem PySem.Spec L2 PyProof.Rows
/-- a tuple and a list, walked side by side -/
def ItzM (K : PySem.W.Frag) (la lb : Addr) : It where
  go := fun i H => ∃ (xs ys : List V) (x y : V), SqT K H la xs ∧ SqL K H lb ys ∧ xs[i]? = some x ∧ ys[i]? = some y
  yld := fun i H v H' => ∃ T x y, v = .ref T ∧ H T = none ∧ H' = upd H T (.tup [x, y]) ∧ (∀ l, SqT K H la l → l[i]? = some x) ∧ ∀ l, SqL K H lb l → l[i]? = some y
  stop := fun i H => ∃ xs ys : List V, SqT K H la xs ∧ SqL K H lb ys ∧ i = min xs.length ys.length
section
variable {P : Program} {w : World} {K : PySem.W.Frag} {els : List Expr} {kx : Nat} {tp : Pos} {la lb zz ti to ja jb : Addr}
/-- the walk's own five objects -/
def fiveZ (zz ti to ja jb : Addr) : List Addr := [zz, ti, to, ja, jb]
theorem five_in {c : Addr} : c ∈ fiveZ zz ti to ja jb ↔ c = zz ∨ c = ti ∨ c = to ∨ c = ja ∨ c = jb := by unfold fiveZ; simp
def stZ (la lb zz ti to ja jb : Addr) (i : Nat) (h : Heap) : Prop := IsZip h zz ti to .none ∧ IsTupOf2 h ti (.ref ja) (.ref jb) ∧ (∃ p q, IsTupOf2 h to p q) ∧ h.IsTupleIter ja la i ∧ h.IsListIter jb lb i
structure ApartM (zz ti to ja jb la lb : Addr) : Prop where
  sep : ZipSep2 zz ti to ja jb [ja, la] [jb, lb]
theorem turn_zipM (D : ApartM zz ti to ja jb la lb) : Turn P w K (.Tuple els kx tp) (ItzM K la lb) (fiveZ zz ti to ja jb) zz (stZ la lb zz ti to ja jb) where
  mem := five_in.mpr (.inl rfl)
  obj := fun i h st c hc => by
    obtain ⟨g1, g2, ⟨p, q, g3⟩, ⟨oa, ga, _, da⟩, ⟨ob, gb, _, db⟩⟩ := st
    rcases five_in.mp hc with rfl | rfl | rfl | rfl | rfl
    · exact ⟨_, g1, fun v z => nomatch z⟩
    · exact ⟨_, g2, fun v z => nomatch z⟩
    · exact ⟨_, g3, fun v z => nomatch z⟩
    · exact ⟨oa, ga, fun v z => by rw [da] at z; cases z⟩
    · exact ⟨ob, gb, fun v z => by rw [db] at z; cases z⟩
  keep := fun i h h' st k => by
    obtain ⟨g1, g2, ⟨p, q, g3⟩, g4, g5⟩ := st
    have m := fun c hc => k c (five_in.mpr hc)
    exact ⟨m zz (.inl rfl) _ g1, m ti (.inr (.inl rfl)) _ g2, ⟨p, q, m to (.inr (.inr (.inl rfl))) _ g3⟩, g4.at fun o z => m ja (.inr (.inr (.inr (.inl rfl)))) o z, g5.at fun o z => m jb (.inr (.inr (.inr (.inr rfl)))) o z⟩
  item := by
    intro X eP ew eK calm i pins s σ H E I own st g
    cases eP; cases ew; cases eK
    obtain ⟨g1, g2, ⟨p, q, g3⟩, g4, g5⟩ := st
    obtain ⟨xs, ys, x, y, sx, sy, hx, hy⟩ := g
    obtain ⟨ua, ra, pa, _⟩ := I.tuple sx
    obtain ⟨ub, rb, pb, _⟩ := I.list sy
    obtain ⟨va, eva, rva⟩ := ra.get hx
    obtain ⟨vb, evb, rvb⟩ := rb.get hy
    have hd : X.A.in1.handled = none := I.ok.hd calm
    have na : la ≠ ja := fun z => by
      obtain ⟨o, e1, e2, _⟩ := g4
      obtain ⟨o', e3, e4, _⟩ := show s.heap.IsTuple la ua.toArray from pa
      rw [z, e1] at e3
      cases e3
      rw [e2] at e4
      exact absurd e4 (by decide)
    have nb : lb ≠ jb := fun z => by
      obtain ⟨o, e1, e2, _⟩ := g5
      obtain ⟨o', e3, e4, _⟩ := pb.isList
      rw [z, e1] at e3
      cases e3
      rw [e2] at e4
      exact absurd e4 (by decide)
    have lta : i < ua.toArray.size := by
      have := (List.getElem?_eq_some_iff.mp eva).1
      simpa using this
    have ltb : i < ub.toArray.size := by
      have := (List.getElem?_eq_some_iff.mp evb).1
      simpa using this
    have hzl : zz < s.heap.objs.size := Heap.lt_size g1
    refine wpAny_pyNext_zipD2_item D.sep (Draws.tuple hd ja la na ua.toArray) (Draws.list hd jb lb nb ub.toArray) g1 g2 g3 ⟨g4, pa⟩ ⟨g5, pb.isList⟩ lta ltb fun z1 z2 h' tk e1 e2 f1 f2 f3 f4 f5 f6 f7 => ?_
    have e1' : z1 = va := by
      have q1 : ua.toArray[i]? = some va := by simpa using eva
      rw [q1] at e1
      exact (Option.some.inj e1).symm
    have e2' : z2 = vb := by
      have q2 : ub.toArray[i]? = some vb := by simpa using evb
      rw [q2] at e2
      exact (Option.some.inj e2).symm
    subst e1' e2'
    refine ⟨_, rfl, wpAny_letOwnedTupleGo_zip (s := { s with heap := h', toks := tk }) f1 fun h2 k1 k2 => ?_⟩
    have fresh : ∀ c, c ∈ fiveZ zz ti to ja jb → c < s.heap.objs.size := fun c hc => by
      rcases five_in.mp hc with z | z | z | z | z
      · rw [z]; exact hzl
      · rw [z]; exact Heap.lt_size g2
      · rw [z]; exact Heap.lt_size g3
      · rw [z]; obtain ⟨_, u, _⟩ := g4; exact Heap.lt_size u
      · rw [z]; obtain ⟨_, u, _⟩ := g5; exact Heap.lt_size u
    have pair2 : h2.get? s.heap.objs.size = some { cls := .type "tuple", data := .seq #[z1, z2] } := (k2.2 _ (Nat.ne_of_gt hzl)).trans f5
    have made : ObjOk X.prog X.w (upd H s.heap.objs.size (.tup [x, y])) h2 s.heap.objs.size (.tup [x, y]) :=
      ⟨by show 2 ≤ sizeLine; decide, [z1, z2], .cons rva (.cons rvb .nil), ⟨_, pair2, rfl, _, rfl⟩⟩
    have I2 := I.turnedNew (t' := tk) (ch := fiveZ zz ti to ja jb) (fun c o nc u => by
      have n1 : c ≠ zz := fun z => nc (five_in.mpr (.inl z))
      have n3 : c ≠ to := fun z => nc (five_in.mpr (.inr (.inr (.inl z))))
      have n4 : c ≠ ja := fun z => nc (five_in.mpr (.inr (.inr (.inr (.inl z)))))
      have n5 : c ≠ jb := fun z => nc (five_in.mpr (.inr (.inr (.inr (.inr z)))))
      exact (k2.2 c n1).trans (f7 c o n1 n3 n4 n5 u)) own (Nat.le_refl _) made
    refine ⟨.ref s.heap.objs.size, _, I2, rfl, ⟨_, x, y, rfl, I.hok.fresh (Nat.le_refl _), rfl, fun l hl => by rw [I.tuple_inj hl sx]; exact hx, fun l hl => by rw [I.list_inj hl sy]; exact hy⟩, ⟨k1, ?_, ⟨z1, z2, ?_⟩, ?_, ?_⟩, fun c hc => ?_⟩
    · exact (k2.2 _ D.sep.TIz).trans (f7 _ _ D.sep.TIz D.sep.TITO D.sep.TIi1 D.sep.TIi2 g2)
    · exact (k2.2 _ D.sep.TOz).trans f2
    · exact f3.1.at fun o u => (k2.2 _ (Ne.symm D.sep.zi1)).trans u
    · exact f4.1.at fun o u => (k2.2 _ (Ne.symm D.sep.zi2)).trans u
    · rw [upd_ne (Nat.ne_of_lt (fresh c hc))]
      exact (own c hc).1
  done := by
    intro X eP ew eK calm i pins s σ H E I own st g
    cases eP; cases ew; cases eK
    obtain ⟨g1, g2, ⟨p, q, g3⟩, g4, g5⟩ := st
    obtain ⟨xs, ys, sx, sy, fin⟩ := g
    obtain ⟨ua, ra, pa, _⟩ := I.tuple sx
    obtain ⟨ub, rb, pb, _⟩ := I.list sy
    have hd : X.A.in1.handled = none := I.ok.hd calm
    have la1 := ra.length
    have lb1 := rb.length
    have na : la ≠ ja := fun z => by
      obtain ⟨o, e1, e2, _⟩ := g4
      obtain ⟨o', e3, e4, _⟩ := show s.heap.IsTuple la ua.toArray from pa
      rw [z, e1] at e3
      cases e3
      rw [e2] at e4
      exact absurd e4 (by decide)
    have nb : lb ≠ jb := fun z => by
      obtain ⟨o, e1, e2, _⟩ := g5
      obtain ⟨o', e3, e4, _⟩ := pb.isList
      rw [z, e1] at e3
      cases e3
      rw [e2] at e4
      exact absurd e4 (by decide)
    have sa : ua.toArray.size = xs.length := by simp; omega
    have sb : ub.toArray.size = ys.length := by simp; omega
    refine wpAny_pyNext_zipD2_end D.sep (Draws.tuple hd ja la na ua.toArray) (Draws.list hd jb lb nb ub.toArray) g1 g2 g3 ⟨g4, pa⟩ ⟨g5, pb.isList⟩ (by rw [sa]; omega) (by rw [sb]; omega) (by rw [sa, sb]; omega) fun h' tk kk => ?_
    refine ⟨rfl, I.turnedL (t' := tk) (ch := fiveZ zz ti to ja jb) (fun c o nc u => ?_) own⟩
    exact kk c o (fun z => nc (five_in.mpr (.inl z))) (fun z => nc (five_in.mpr (.inr (.inr (.inl z))))) (fun z => nc (five_in.mpr (.inr (.inr (.inr (.inl z)))))) (fun z => nc (five_in.mpr (.inr (.inr (.inr (.inr z)))))) u
  self := fun A i s Q E st h => wpAny_pyIter_zip st.1 h
end
theorem pi_zipM {X : Cx} {a b : Expr} {ta : TA} {p pos tp : Pos} {els : List Expr} {kx : Nat} (hg : Gl X "zip") (hm : X.mg "zip" = none) (ha : PA X [a, b] ta)
    (hs : starEach [a, b] X.env = (false, eval a X.env) :: starEach [b] X.env := by rfl) (hpl : (backTo pos (starEach [b] X.env)).any (·.1) = false := by rfl) :
    PI X (.Tuple els kx tp) (.Call (.Name "zip" p) [a, b] [] pos) (fun σ H R => ta σ H fun vs H1 => ∃ la lb xs ys, vs = [.ref la, .ref lb] ∧ SqT X.K H1 la xs ∧ SqL X.K H1 lb ys ∧ R (ItzM X.K la lb) H1) := by
  constructor
  intro pins s σ H R I h
  refine Call_ (ld_blt I hg hm PyProof.Rows.boot_zip (PyProof.Rows.callWith_type1 (thn (ha.run pos pins s σ H _ I h) ?_) hs hpl))
  rintro us s1 ⟨vs, H1, I1, r1, la, lb, xs, ys, ex, sx, sy, q⟩
  subst ex
  obtain ⟨u1, r1a, eu, rv1, rr1⟩ : ∃ u1 r1a, us = u1 :: r1a ∧ RelV (.ref la) u1 ∧ Vals [.ref lb] r1a := by
    cases r1 with
    | cons r rr => exact ⟨_, _, rfl, r, rr⟩
  subst eu
  obtain ⟨u2, eu2, rv2⟩ : ∃ u2, r1a = [u2] ∧ RelV (.ref lb) u2 := by
    cases rr1 with
    | cons r rr =>
      cases rr
      exact ⟨_, rfl, r⟩
  subst eu2
  cases rv1
  cases rv2
  obtain ⟨ua, ra, pa, _⟩ := I1.tuple sx
  obtain ⟨ub, rb, pb, _⟩ := I1.list sy
  have pa' : s1.heap.IsTuple la ua.toArray := pa
  have lta : la < s1.heap.objs.size := by obtain ⟨o, e, _⟩ := pa'; exact Heap.lt_size e
  have ltb : lb < s1.heap.objs.size := by obtain ⟨o, e, _⟩ := pb.isList; exact Heap.lt_size e
  refine zip_begins2 (begins_tuple la ua.toArray) (begins_list lb ub.toArray) pa' pb.isList fun h' z1 z2 z3 z4 z5 z6 kk => wpAny_pyIter_zip z1 ?_
  generalize hn : s1.heap.objs.size = n at *
  have I2 : Inv X pins σ H1 { s1 with heap := h' } := I1.kept (t' := s1.toks) kk
  have D : ApartM (n + 4) (n + 2) (n + 3) n (n + 1) la lb := ⟨by
    have far : ∀ (k : Nat) (m c : Addr), m = n → c < n → ¬ m + k = c := fun k m c e hc z => by
      have h1 : n + k < n := by rw [← e, z, e]; exact hc
      exact absurd h1 (Nat.not_lt.mpr (Nat.le_add_right _ _))
    constructor
    all_goals first
      | simp; done
      | (simp; exact far _ n la rfl lta)
      | (simp; exact far _ n lb rfl ltb)
      | (simp; exact fun z => far 0 n lb rfl ltb z)
      | (simp; exact fun z => absurd ltb (by rw [← z]; exact Nat.lt_irrefl _))
      | (simp; exact fun z => absurd lta (by rw [← z]; exact Nat.not_lt.mpr (Nat.le_add_right _ _)))⟩
  refine ⟨n + 4, fiveZ (n + 4) (n + 2) (n + 3) n (n + 1), _, _, H1, rfl, I2, turn_zipM D, ⟨z1, z2, ⟨_, _, z3⟩, ⟨_, z4, rfl, rfl⟩, ⟨_, z5, rfl, rfl⟩⟩, fun c hc => ?_, q⟩
  have big : s1.heap.objs.size ≤ c := by
    rw [hn]
    rcases five_in.mp hc with z | z | z | z | z <;> rw [z] <;> first | exact Nat.le_add_right _ _ | exact Nat.le_refl _
  exact I1.fpOk big (I1.hok.fresh big)
/-! ### on data -/
/-- a list as it stands -/
def rdOf : D → Option (Sto → Option (List D))
  | .kl es => some fun _ => some es
  | .ref n => some fun st => match st[n]? with
    | some (.lst es) => some es
    | _ => none
  | _ => none
def mixFeed (ds : List D) (rd : Sto → Option (List D)) : Feed := fun i st => match rd st with
  | some es => match ds[i]?, es[i]? with
    | some a, some b => some (some (.tup [a, b]))
    | _, _ => if i = min ds.length es.length then some none else none
  | none => none
def itMix (x y : D) (st : Sto) : Option (Feed × Nat) := match x with
  | .tup ds => match rdOf y with
    | some rd => match rd st with
      | some es => some (mixFeed ds rd, min ds.length es.length)
      | none => none
    | none => none
  | _ => none
def itZipM (as : MA) : MI := fun env st => (as env st).bind fun xs st => match xs with
  | [x, y] => match itMix x y st with
    | some f => .ok f st
    | none => .no
  | _ => .no
section
variable {X : Cx} {G : Gx} {a b tg : Expr} {els : List Expr} {tas : TA} {mas : MA} {pos p tp : Pos} {kx : Nat}
theorem live_mix {K : PySem.W.Frag} {T : List (Addr × Str)} {H : Hp} {ρ : List Addr} {la lb : Addr} {ds : List D} {xs : List V} {y : D} {rd : Sto → Option (List D)} (hq : SqT K H la xs) (hr : EVs K H ρ ds xs) (hy : EV K H ρ y (.ref lb)) (e : rdOf y = some rd) : Live K T H ρ (ItzM K la lb) (mixFeed ds rd) := by
  have rdl : ∀ H' ρ' st es, Fr H ρ H' ρ' → ES K T H' ρ' st → rd st = some es → ∃ ys, SqL K H' lb ys ∧ EVs K H' ρ' es ys := by
    intro H' ρ' st es fr hes hrd
    cases hy with
    | @kl _ es0 ys sq r =>
      cases e
      cases hrd
      exact ⟨ys, (fr.rf sq).l, r.mono fr⟩
    | @ref n _ hn =>
      cases e
      dsimp only at hrd
      split at hrd
      · rename_i es1 hst
        cases hrd
        obtain ⟨ys, q1, q2⟩ := hes.seq (fr.get hn) hst
        exact ⟨ys, q1, q2⟩
      · cases hrd
    | _ => cases e
  refine ⟨fun H' ρ' st i fr hes hh => ?_, fun H' ρ' st i d fr hes hh => ?_⟩
  · unfold mixFeed at hh
    cases hrd : rd st with
    | none => rw [hrd] at hh; cases hh
    | some es =>
      rw [hrd] at hh
      obtain ⟨ys, q1, q2⟩ := rdl H' ρ' st es fr hes hrd
      dsimp only at hh
      split at hh
      · cases hh
      · split at hh
        · rename_i hi
          exact ⟨xs, ys, fr.rd hq, q1, by rw [hi, hr.length, q2.length]⟩
        · cases hh
  · unfold mixFeed at hh
    cases hrd : rd st with
    | none => rw [hrd] at hh; cases hh
    | some es =>
      rw [hrd] at hh
      obtain ⟨ys, q1, q2⟩ := rdl H' ρ' st es fr hes hrd
      dsimp only at hh
      split at hh
      · rename_i u v eu ev
        cases hh
        obtain ⟨x, e1, e2⟩ := (hr.mono fr).get eu
        obtain ⟨z, e3, e4⟩ := q2.get ev
        refine ⟨⟨xs, ys, x, z, fr.rd hq, q1, e1, e3⟩, fun t H'' yl => ?_⟩
        obtain ⟨Ta, p, q, rfl, hT, rfl, hp, hq2⟩ := yl
        have ep := hp xs (fr.rd hq)
        have eq := hq2 ys q1
        rw [e1] at ep
        rw [e3] at eq
        cases ep
        cases eq
        have fl : Fr H' ρ' (upd H' Ta (.tup [x, z])) ρ' := Fr.laid hT
        exact ⟨fl, .tup (.inl (.inl upd_same)) (.cons (e2.mono fl) (.cons (e4.mono fl) .nil)), hes.laid hT⟩
      · split at hh <;> cases hh
theorem si_zipM (hg : Gl X "zip") (hm : X.mg "zip" = none) (ha : SA X G [a, b] tas mas) (hs : starEach [a, b] X.env = (false, eval a X.env) :: starEach [b] X.env := by rfl) (hpl : (backTo pos (starEach [b] X.env)).any (·.1) = false := by rfl) :
    SI X G (.Tuple els kx tp) (.Call (.Name "zip" p) [a, b] [] pos) (fun σ H R => tas σ H fun vs H1 => ∃ la lb xs ys, vs = [.ref la, .ref lb] ∧ SqT X.K H1 la xs ∧ SqL X.K H1 lb ys ∧ R (ItzM X.K la lb) H1) (itZipM mas) := ⟨pi_zipM hg hm ha.pe hs hpl, fun σ env ρ st H Q ev es h => by
  refine ha.sd σ env ρ st H _ ev es (h.bind fun xs st1 ρ1 H1 vs f1 e1 es1 q => ?_)
  split at q
  · rename_i x y
    split at q
    · rename_i f ef
      cases e1 with
      | cons ex r =>
        cases r with
        | cons ey r =>
          cases r
          unfold itMix at ef
          split at ef
          · rename_i ds
            split at ef
            · rename_i rd erd
              split at ef
              · rename_i es2 ers
                cases ef
                cases ex with
                | @tup la _ us hq hr =>
                  have : ∃ lb, EV X.K H1 ρ1 y (.ref lb) ∧ ∃ ys, SqL X.K H1 lb ys := by
                    cases ey with
                    | @kl lb _ ys sq r => exact ⟨lb, .kl sq r, ys, sq.l⟩
                    | @ref n lb hn =>
                      cases erd
                      dsimp only at ers
                      split at ers
                      · rename_i es3 hst
                        obtain ⟨ys, q1, q2⟩ := es1.seq hn hst
                        exact ⟨lb, .ref hn, ys, q1⟩
                      · cases ers
                    | _ => cases erd
                  obtain ⟨lb, ey2, ys, sy⟩ := this
                  have same : ∀ v, EV X.K H1 ρ1 y v → v = .ref lb → _ := fun v h _ => h
                  cases ey with
                  | @kl lb2 _ ys2 sq r => exact ⟨la, lb2, us, ys2, rfl, hq, sq.l, q.now (live_mix hq hr (.kl sq r) erd) es1⟩
                  | @ref n lb2 hn =>
                    cases erd
                    dsimp only at ers
                    split at ers
                    · rename_i es3 hst
                      obtain ⟨ys2, q1, q2⟩ := es1.seq hn hst
                      exact ⟨la, lb2, us, ys2, rfl, hq, q1, q.now (live_mix hq hr (.ref hn) rfl) es1⟩
                    · cases ers
                  | _ => cases erd
              · cases ef
            · cases ef
          · cases ef
    · exact q.elim
  · exact q.elim⟩
end
end Dn

set_option Elab.async false
set_option linter.all false
set_option maxRecDepth 100000
set_option maxHeartbeats 2000000
/-! enumerate of a list, of a tuple. -/
namespace Dn
open PySem PySem.Spec L2 PyProof.Rows
section
/-- its two new objects, whatever is walked -/
theorem meets_enum1 {v : Value} {ob : Obj} {Hh : Heap → Prop} (B : Begins v ob Hh) :
    Meets (Builtin.«enumerate.__new__» ⟨[.type "enumerate", v], []⟩) (fun _ R s => Hh s.heap ∧ R (.ok (.ret (.ref (s.heap.push ob).objs.size)))
      { s with heap := (s.heap.push ob).push { cls := .type "enumerate", data := .fields #[.none, .bool false, .ref s.heap.objs.size, rawInt 0, .none, .none] } }) :=
  .of_wp fun prog w A R s hh => by
    obtain ⟨hp, g, d, tk, os⟩ := s
    obtain ⟨there, hh⟩ := hh
    have is_sub := sub_enumerate
    have begun : ∀ {A1 : Around} {E1 Q1 : Value → Shared → Prop}, Q1 (.ref hp.objs.size) ⟨hp.push ob, g, d, tk, os⟩ → wpAny (model prog w) A1 (pyIter v) Q1 E1 ⟨hp, g, d, tk, os⟩ :=
      fun q => B.iter prog w _ _ ⟨hp, g, d, tk, os⟩ _ there q
    wp_walk using begun
    refine wpAny_stack_any fun top => wpAny_pure ?_
    split
    · rename_i cc _ _ _ _ _
      cases (cc == Value.type "enumerate")
      all_goals
        wp_walk using begun
        exact ⟨_, rfl, hh⟩
    · wp_walk using begun
      exact ⟨_, rfl, hh⟩
variable {prog : Program} {w : World} {A : Around} {E : Value → Shared → Prop} {s : Shared}
theorem enum_one {v : Value} {ob : Obj} {Hh : Heap → Prop} {Q : Value → Shared → Prop} (B : Begins v ob Hh) (there : Hh s.heap)
    (go : ∀ h', IsEnum h' (s.heap.objs.size + 1) s.heap.objs.size 0 .none → h'.get? s.heap.objs.size = some ob → (∀ b o, s.heap.get? b = some o → h'.get? b = some o) → Q (.ref (s.heap.objs.size + 1)) { s with heap := h' }) :
    wpAny (model prog w) A (call (.type "enumerate") [v]) Q E s := by
  refine callType_new F.called_enumerate (by decide) (F.typeCall_enumerate_1 _) (F.newCall_enumerate_1 _) (fun obj => F.args_object_init_2 obj _) F.entry_enumerate_new (meets_enum1 B) ⟨there, ?_⟩
  have size1 : (s.heap.push ob).objs.size = s.heap.objs.size + 1 := Heap.size_push ..
  have en : IsEnum ((s.heap.push ob).push { cls := .type "enumerate", data := .fields #[.none, .bool false, .ref s.heap.objs.size, rawInt 0, .none, .none] }) (s.heap.objs.size + 1) s.heap.objs.size 0 .none := by
    have made := Heap.get?_push_size (s.heap.push ob) (o := { cls := .type "enumerate", data := .fields #[.none, .bool false, .ref s.heap.objs.size, rawInt 0, .none, .none] }) rfl
    rw [size1] at made
    exact made
  show _ ∧ _
  rw [size1]
  exact ⟨⟨_, en, rfl⟩, go _ en (Heap.get?_push_of_some _ (Heap.get?_push_size _ B.free)) fun b o x => Heap.get?_push_of_some _ (Heap.get?_push_of_some _ x)⟩
end
/-- a tuple, each item in a new pair with its number -/
def IteT (K : PySem.W.Frag) (a : Addr) : It where
  go := fun i H => ∃ (xs : List V) (x : V), SqT K H a xs ∧ xs[i]? = some x
  yld := fun i H v H' => ∃ T x, v = .ref T ∧ H T = none ∧ H' = upd H T (.tup [.int (i : Nat), x]) ∧ ∀ xs, SqT K H a xs → xs[i]? = some x
  stop := fun i H => ∃ xs : List V, SqT K H a xs ∧ i = xs.length
section
variable {P : Program} {w : World} {K : PySem.W.Frag} {els : List Expr} {kx : Nat} {tp : Pos} {ta en it : Addr}
def stE (ta en it : Addr) (i : Nat) (h : Heap) : Prop := (∃ old, IsEnum h en it ((i : Nat) : Int) old) ∧ h.IsTupleIter it ta i ∧ en ≠ it ∧ en ≠ ta
theorem two_in {c : Addr} : c ∈ [en, it] ↔ c = en ∨ c = it := by simp
theorem turn_enumT : Turn P w K (.Tuple els kx tp) (IteT K ta) [en, it] en (stE ta en it) where
  mem := two_in.mpr (.inl rfl)
  obj := fun i h st c hc => by
    obtain ⟨⟨old, g1⟩, ⟨o, g2, _, g3⟩, _⟩ := st
    rcases two_in.mp hc with rfl | rfl
    · exact ⟨_, g1, fun v z => nomatch z⟩
    · exact ⟨o, g2, fun v z => by rw [g3] at z; cases z⟩
  keep := fun i h h' st k => by
    obtain ⟨⟨old, g1⟩, g2, g3⟩ := st
    exact ⟨⟨old, k en (two_in.mpr (.inl rfl)) _ g1⟩, g2.at fun o z => k it (two_in.mpr (.inr rfl)) o z, g3⟩
  item := by
    intro X eP ew eK calm i pins s σ H E I own st g
    cases eP; cases ew; cases eK
    obtain ⟨⟨old, g1⟩, g2, g3, g4⟩ := st
    obtain ⟨xs, x, sx, hx⟩ := g
    obtain ⟨ua, ra, pa, _⟩ := I.tuple sx
    obtain ⟨va, eva, rva⟩ := ra.get hx
    have hd : X.A.in1.handled = none := I.ok.hd calm
    have na : ta ≠ it := fun z => by
      obtain ⟨o, e1, e2, _⟩ := g2
      obtain ⟨o', e3, e4, _⟩ := show s.heap.IsTuple ta ua.toArray from pa
      rw [z, e1] at e3
      cases e3
      rw [e2] at e4
      exact absurd e4 (by decide)
    have lta : i < ua.toArray.size := by
      have := (List.getElem?_eq_some_iff.mp eva).1
      simpa using this
    have hel : en < s.heap.objs.size := Heap.lt_size g1
    refine wpAny_pyNext_enum_itemC (Draws.tuple hd it ta na ua.toArray) g1 ⟨g2, pa⟩ lta g3 (by simp [g3, g4]) fun z h' tk e1 f1 f2 f3 f4 f5 => ?_
    have e1' : z = va := by
      have q1 : ua.toArray[i]? = some va := by simpa using eva
      rw [q1] at e1
      exact (Option.some.inj e1).symm
    subst e1'
    refine ⟨_, rfl, wpAny_letOwnedTupleGo_enum (s := { s with heap := h', toks := tk + 1 }) f1 fun h2 k1 k2 => ?_⟩
    have pair2 : h2.get? s.heap.objs.size = some { cls := .type "tuple", data := .seq #[.int i tk, z] } := (k2.2 _ (Nat.ne_of_gt hel)).trans f3
    have made : ObjOk X.prog X.w (upd H s.heap.objs.size (.tup [.int (i : Nat), x])) h2 s.heap.objs.size (.tup [.int (i : Nat), x]) :=
      ⟨by show 2 ≤ sizeLine; decide, [.int i tk, z], .cons ⟨_, rfl⟩ (.cons rva .nil), ⟨_, pair2, rfl, _, rfl⟩⟩
    have I2 := I.turnedNew (t' := tk + 1) (ch := [en, it]) (fun c o nc u => by
      have n1 : c ≠ en := fun z => nc (two_in.mpr (.inl z))
      have n2 : c ≠ it := fun z => nc (two_in.mpr (.inr z))
      exact (k2.2 c n1).trans (f5 c o n1 n2 u)) own (Nat.le_refl _) made
    refine ⟨.ref s.heap.objs.size, _, I2, rfl, ⟨_, x, rfl, I.hok.fresh (Nat.le_refl _), rfl, fun l hl => by rw [I.tuple_inj hl sx]; exact hx⟩, ⟨⟨z, ?_⟩, f2.1.at fun o u => (k2.2 _ (Ne.symm g3)).trans u, g3, g4⟩, fun c hc => ?_⟩
    · have e2 : ((i + 1 : Nat) : Int) = (i : Int) + 1 := by omega
      rw [e2]
      exact k1
    · have lt : c < s.heap.objs.size := by
        rcases two_in.mp hc with z | z
        · rw [z]; exact hel
        · rw [z]; obtain ⟨_, u, _⟩ := g2; exact Heap.lt_size u
      rw [upd_ne (Nat.ne_of_lt lt)]
      exact (own c hc).1
  done := by
    intro X eP ew eK calm i pins s σ H E I own st g
    cases eP; cases ew; cases eK
    obtain ⟨⟨old, g1⟩, g2, g3, g4⟩ := st
    obtain ⟨xs, sx, fin⟩ := g
    obtain ⟨ua, ra, pa, _⟩ := I.tuple sx
    have hd : X.A.in1.handled = none := I.ok.hd calm
    have la1 := ra.length
    have na : ta ≠ it := fun z => by
      obtain ⟨o, e1, e2, _⟩ := g2
      obtain ⟨o', e3, e4, _⟩ := show s.heap.IsTuple ta ua.toArray from pa
      rw [z, e1] at e3
      cases e3
      rw [e2] at e4
      exact absurd e4 (by decide)
    have sa : ua.toArray.size = i := by simp; omega
    obtain ⟨a0, a1, a2, a3, a4, a5⟩ := own it (two_in.mpr (.inr rfl))
    refine wpAny_pyNext_enum_endD (Draws.tuple hd it ta na ua.toArray) g1 ⟨by rw [sa]; exact g2, pa⟩ fun h' kk => ?_
    exact ⟨rfl, I.turned (t' := s.toks) (fun b o nb u => kk b o nb u) a0 a1 a3 a4 a5⟩
  self := fun A i s Q E st h => wpAny_pyIter_enum st.1.choose_spec h
end
def iEnumB (K : PySem.W.Frag) (ta : TA) : TI := fun σ H R => ta σ H fun vs H1 => ∃ a, vs = [.ref a] ∧ ((∃ xs, SqL K H1 a xs ∧ R (Ite K a) H1) ∨ (∃ xs, SqT K H1 a xs ∧ R (IteT K a) H1))
theorem pi_enumB {X : Cx} {e : Expr} {ta : TA} {p pos tp : Pos} {els : List Expr} {kx : Nat} (hg : Gl X "enumerate") (hm : X.mg "enumerate" = none) (ha : PA X [e] ta) (hs : starEach [e] X.env = [(false, eval e X.env)] := by rfl) :
    PI X (.Tuple els kx tp) (.Call (.Name "enumerate" p) [e] [] pos) (iEnumB X.K ta) := by
  constructor
  intro pins s σ H R I h
  refine Call_ (ld_blt I hg hm boot_enumerate (PyProof.Rows.callWith_type1 (thn (ha.run pos pins s σ H _ I h) ?_) hs rfl))
  rintro us s1 ⟨vs, H1, I1, r1, a, ex, q⟩
  subst ex
  obtain ⟨u, eu, ru⟩ : ∃ u, us = [u] ∧ RelV (.ref a) u := by
    cases r1 with
    | cons r rr =>
      cases rr
      exact ⟨_, rfl, r⟩
  subst eu
  cases ru
  have own : ∀ b ∈ [s1.heap.objs.size + 1, s1.heap.objs.size], FpOk X pins H1 b := fun b hb => by
    have big : s1.heap.objs.size ≤ b := by
      rcases two_in.mp hb with z | z <;> rw [z] <;> first | exact Nat.le_add_right _ _ | exact Nat.le_refl _
    exact I1.fpOk big (I1.hok.fresh big)
  rcases q with ⟨xs, sx, q⟩ | ⟨xs, sx, q⟩
  · obtain ⟨ua, ra, pa, _⟩ := I1.list sx
    refine enum_one (begins_list a ua.toArray) pa.isList fun h' g1 g2 kk => wpAny_pyIter_enum g1 ?_
    exact ⟨s1.heap.objs.size + 1, _, _, _, H1, rfl, I1.kept (t' := s1.toks) kk, turn_enum a (s1.heap.objs.size + 1) s1.heap.objs.size, ⟨⟨_, g1⟩, ⟨_, g2, rfl, rfl⟩, Nat.succ_ne_self _⟩, own, q⟩
  · obtain ⟨ua, ra, pa, _⟩ := I1.tuple sx
    have pa' : s1.heap.IsTuple a ua.toArray := pa
    have lta : a < s1.heap.objs.size := by obtain ⟨o, e, _⟩ := pa'; exact Heap.lt_size e
    refine enum_one (begins_tuple a ua.toArray) pa' fun h' g1 g2 kk => wpAny_pyIter_enum g1 ?_
    exact ⟨s1.heap.objs.size + 1, _, _, _, H1, rfl, I1.kept (t' := s1.toks) kk, turn_enumT (ta := a), ⟨⟨_, g1⟩, ⟨_, g2, rfl, rfl⟩, Nat.succ_ne_self _, Nat.ne_of_gt (Nat.lt_succ_of_lt lta)⟩, own, q⟩
/-! ### on data -/
def enumFeed (f : Feed) : Feed := fun i st => match f i st with
  | some (some d) => some (some (.tup [.int (i : Int), d]))
  | some none => some none
  | none => none
/-- a tuple's numbers: the end stands at its length alone -/
def enumT (ds : List D) : Feed := fun i _ => match ds[i]? with
  | some d => some (some (.tup [.int (i : Int), d]))
  | none => if i = ds.length then some none else none
def itEnum (as : MA) : MI := fun env st => (as env st).bind fun xs st => match xs with
  | [.tup ds] => .ok (enumT ds, ds.length) st
  | [.kl ds] => .ok (enumFeed (seqFeed ds), ds.length) st
  | [.ref n] => match st[n]? with
    | some (.lst ds) => .ok (enumFeed (lstFeed n), ds.length) st
    | _ => .no
  | _ => .no
section
variable {K : PySem.W.Frag} {T : List (Addr × Str)} {H : Hp} {ρ : List Addr} {a : Addr}
theorem live_enumT {ds : List D} {xs : List V} (hq : SqT K H a xs) (hr : EVs K H ρ ds xs) : Live K T H ρ (IteT K a) (enumT ds) := by
  refine ⟨fun H' ρ' st i fr hes hh => ?_, fun H' ρ' st i d fr hes hh => ?_⟩
  · unfold enumT at hh
    cases e : ds[i]? with
    | some d => rw [e] at hh; cases hh
    | none =>
      rw [e] at hh
      dsimp only at hh
      split at hh
      · rename_i hi
        exact ⟨xs, fr.rd hq, by rw [hi, hr.length]⟩
      · cases hh
  · unfold enumT at hh
    cases e : ds[i]? with
    | none =>
      rw [e] at hh
      dsimp only at hh
      split at hh <;> cases hh
    | some u =>
      rw [e] at hh
      cases hh
      obtain ⟨x, e1, e2⟩ := (hr.mono fr).get e
      refine ⟨⟨xs, x, fr.rd hq, e1⟩, fun t H'' yl => ?_⟩
      obtain ⟨Ta, q, rfl, hT, rfl, hp⟩ := yl
      have ep := hp xs (fr.rd hq)
      rw [e1] at ep
      cases ep
      have fl : Fr H' ρ' (upd H' Ta (.tup [.int (i : Nat), x])) ρ' := Fr.laid hT
      exact ⟨fl, .tup (.inl (.inl upd_same)) (.cons (.int _) (.cons (e2.mono fl) .nil)), hes.laid hT⟩
theorem live_enumL {f : Feed} (h1 : RdS K T (fun H => SqL K H a) H ρ f) : Live K T H ρ (Ite K a) (enumFeed f) := by
  refine ⟨fun H' ρ' st i fr hes hh => ?_, fun H' ρ' st i d fr hes hh => ?_⟩
  · unfold enumFeed at hh
    cases e : f i st with
    | none => rw [e] at hh; cases hh
    | some o =>
      rw [e] at hh
      cases o with
      | some d => cases hh
      | none =>
        obtain ⟨vs, ds, a1, a2, a3⟩ := h1 H' ρ' st i _ fr hes e
        exact ⟨vs, a1, by rw [← a2.length]; exact List.getElem?_eq_none_iff.mp a3⟩
  · unfold enumFeed at hh
    cases e : f i st with
    | none => rw [e] at hh; cases hh
    | some o =>
      rw [e] at hh
      cases o with
      | none => cases hh
      | some u =>
        cases hh
        obtain ⟨vs, ds, a1, a2, a3⟩ := h1 H' ρ' st i _ fr hes e
        obtain ⟨x, e1, e2⟩ := a2.get a3
        refine ⟨⟨vs, x, a1, e1⟩, fun t H'' yl => ?_⟩
        obtain ⟨Ta, q, rfl, hT, rfl, hp⟩ := yl
        have ep := hp vs a1
        rw [e1] at ep
        cases ep
        have fl : Fr H' ρ' (upd H' Ta (.tup [.int (i : Nat), x])) ρ' := Fr.laid hT
        exact ⟨fl, .tup (.inl (.inl upd_same)) (.cons (.int _) (.cons (e2.mono fl) .nil)), hes.laid hT⟩
end
theorem si_enum {X : Cx} {G : Gx} {a : Expr} {els : List Expr} {tas : TA} {mas : MA} {pos p tp : Pos} {kx : Nat} (hg : Gl X "enumerate") (hm : X.mg "enumerate" = none) (ha : SA X G [a] tas mas) (hs : starEach [a] X.env = [(false, eval a X.env)] := by rfl) :
    SI X G (.Tuple els kx tp) (.Call (.Name "enumerate" p) [a] [] pos) (iEnumB X.K tas) (itEnum mas) := ⟨pi_enumB hg hm ha.pe hs, fun σ env ρ st H Q ev es h => by
  refine ha.sd σ env ρ st H _ ev es (h.bind fun xs st1 ρ1 H1 vs f1 e1 es1 q => ?_)
  split at q
  · cases e1 with
    | cons ex r =>
      cases r
      cases ex with
      | @tup a _ us hq hr => exact ⟨a, rfl, .inr ⟨us, hq, q.now (live_enumT hq hr) es1⟩⟩
  · cases e1 with
    | cons ex r =>
      cases r
      cases ex with
      | @kl a _ us hq hr => exact ⟨a, rfl, .inl ⟨us, hq.l, q.now (live_enumL (rd_kl hq hr)) es1⟩⟩
  · rename_i n
    split at q
    · rename_i ds hst
      cases e1 with
      | cons ex r =>
        cases r
        cases ex with
        | @ref _ a hn =>
          obtain ⟨us, q1, q2⟩ := es1.seq hn hst
          exact ⟨a, rfl, .inl ⟨us, q1, q.now (live_enumL (rd_lst hn)) es1⟩⟩
    · exact q.elim
  · exact q.elim⟩
end Dn

set_option Elab.async false
set_option linter.all false
set_option maxRecDepth 100000
set_option maxHeartbeats 2000000
/-! insert. -/
namespace Dn
open PySem PySem.Spec L2 PyProof.Rows
section
variable {K : PySem.W.Frag} {G : Gx}
def insertD : FM := fun o xs st => match o, xs with
  | .ref n, [.int i, y] => match st[n]? with
    | some (.lst ds) => if ds.length < 1000000 ∧ 0 ≤ i ∧ i < 2 ^ 63 then .ok .non (st.set n (.lst (ds.take i.toNat ++ [y] ++ ds.drop i.toNat))) else .no
    | _ => .no
  | _, _ => .no
theorem ms_insert : MtSo K G (fun x vs H Q => ∃ (l : Addr) (xs : List V) (i : Int) (y : V), x = .ref l ∧ vs = [.int i, y] ∧ H l = some (.lst xs) ∧ xs.length < sizeLine ∧ 0 ≤ i ∧ i < 2 ^ 63 ∧
    Q .non (upd H l (.lst (xs.take i.toNat ++ [y] ++ xs.drop i.toNat)))) insertD := by
  intro o xs vo vs ρ st H Q eo exs es h
  unfold insertD at h
  split at h
  · rename_i n i y
    split at h
    · rename_i ds e1
      split at h
      · rename_i hc
        obtain ⟨p, rfl, hn⟩ := eo.ofRef
        cases exs with
        | cons ei r =>
          cases ei
          cases r with
          | @cons _ vy _ _ ey r =>
            cases r
            obtain ⟨us, q1, q2⟩ := es.cell n p _ hn e1
            have fw : Fr H ρ (upd H p (.lst (us.take i.toNat ++ [vy] ++ us.drop i.toNat))) ρ := Fr.write (List.mem_of_getElem? hn) q1
            exact ⟨p, us, i, _, rfl, rfl, q1, by rw [← q2.length]; exact Nat.lt_of_lt_of_le hc.1 (by decide), hc.2.1, hc.2.2, h ρ _ _ fw .non (es.write hn q1 (((q2.take _).append (.cons ey .nil)).append (q2.drop _)))⟩
      · exact h.elim
    · exact h.elim
  · exact h.elim
/-- append, to longer lists -/
def appendB : FM := fun o xs st => match o, xs with
  | .ref n, [y] => match st[n]? with
    | some (.lst ds) => if ds.length < 1000000 then .ok .non (st.set n (.lst (ds ++ [y]))) else .no
    | _ => .no
  | _, _ => .no
theorem ms_appendB : MtSo K G rAppend appendB := by
  intro o xs vo vs ρ st H Q eo exs es h
  unfold appendB at h
  split at h
  · rename_i n y
    split at h
    · rename_i ds q
      split at h
      · rename_i hl
        obtain ⟨a, rfl, hn⟩ := eo.ofRef
        obtain ⟨v, rfl, ev⟩ := exs.one rfl
        obtain ⟨ws, q1, q2⟩ := es.cell n a _ hn q
        exact ⟨a, ws, v, rfl, rfl, q1, by rw [← q2.length]; exact Nat.lt_of_lt_of_le hl (by decide), h ρ _ _ (Fr.write (List.mem_of_getElem? hn) q1) .non (es.write hn q1 (q2.append (.cons ev .nil)))⟩
      · exact h.elim
    · exact h.elim
  · exact h.elim
end
end Dn

set_option Elab.async false
set_option linter.all false
set_option maxRecDepth 100000
set_option maxHeartbeats 2000000
/-! a, b = a list. -/
namespace Dn
open PySem PySem.Spec L2 PyProof.Rows
/-- a list of that length -/
def gLst (K : PySem.W.Frag) (n : Nat) (t : TGs) : TG := fun v σ H Q => ∃ a xs, v = .ref a ∧ SqL K H a xs ∧ xs.length = n ∧ t xs σ H Q
theorem pg_lst {X : Cx} {es : List Expr} {kx n : Nat} {t : TGs} {pos : Pos} (calm : X.calm = true) (each : PGs X es t) (many : (assignEach es X.env).length = n := by rfl) (nostar : (assignEach es X.env).findIdx? (·.1) = none := by rfl) :
    PG X (.Tuple es kx pos) (gLst X.K n t) := by
  constructor
  intro pins s σ H v u Q I r hw
  obtain ⟨a, xs, ev, sx, len, hw⟩ := hw
  subst ev
  cases r
  obtain ⟨ua, ra, pa, _⟩ := I.list sx
  have hd : X.A.handled = none := I.ok.hd calm
  rw [arm_assign_Tuple]
  refine wpAny_bind (wpAny_standAt ?_)
  unfold unpack
  have many2 : (assignEach es X.env).length = ua.toArray.size := by
    have := ra.length
    rw [many, ← len, this]
    simp
  rw [many2, nostar]
  refine wpAny_bind (wpAny_holding (PySem.W.kun_itemsOf hd pa.isList fun h' kk => ?_))
  have I1 : Inv X pins σ H { s with heap := h' } := I.kept (t' := s.toks) fun b o e => kk b o (Nat.ne_of_lt (Heap.lt_size e)) e
  exact each.run pins _ σ H xs _ Q I1 (by simpa using ra) hw
def mLst (n : Nat) (gs : MGs) : MG := fun d env st => match d with
  | .ref r => match st[r]? with
    | some (.lst ds) => if ds.length = n then gs ds env st else .no
    | _ => .no
  | _ => .no
theorem sg_lst {X : Cx} {G : Gx} {es : List Expr} {kx n : Nat} {gs : TGs} {mgs : MGs} {pos : Pos} (calm : X.calm = true) (h : SGs X G es gs mgs) (many : (assignEach es X.env).length = n := by rfl) (nostar : (assignEach es X.env).findIdx? (·.1) = none := by rfl) :
    SG X G (.Tuple es kx pos) (gLst X.K n gs) (mLst n mgs) :=
  ⟨pg_lst calm h.pe many nostar, fun d v σ env ρ st H Q hd ev es q => by
  cases hd with
  | @ref r a hn =>
    simp only [mLst] at q
    cases e : st[r]? with
    | none => rw [e] at q; exact q.elim
    | some c =>
      rw [e] at q
      cases c with
      | dct kvs => exact q.elim
      | dtt _ => exact q.elim
      | obj _ _ => exact q.elim
      | lst ds =>
        dsimp only at q
        by_cases hl : ds.length = n
        · rw [if_pos hl] at q
          obtain ⟨vs, q1, q2⟩ := es.cell r a _ hn e
          exact ⟨a, vs, rfl, .inl (.inl q1), by rw [← q2.length]; exact hl, h.sd ds vs σ env ρ st H Q q2 ev es q⟩
        · rw [if_neg hl] at q
          exact q.elim
  | _ => exact q.elim⟩
end Dn

set_option Elab.async false
set_option linter.all false
set_option maxRecDepth 100000
set_option maxHeartbeats 2000000
/-! Dicts whose keys are tuples of ints, wherever the tuples stand; list of a dict; two targets. -/
namespace Dn
open PySem PySem.Spec PyProof.Rows L2
abbrev Ws := List (List Int × Addr × V)
abbrev Xs := List (List Int × Addr × Value)
def KI : Ws → Xs → Prop := Paired (fun (p : List Int × Addr × V) (q : List Int × Addr × Value) => p.1 = q.1 ∧ p.2.1 = q.2.1 ∧ RelV p.2.2 q.2.2)
def getW (ws : Ws) (k : List Int) : Option V := (ws.find? fun x => decide (x.1 = k)).map (·.2.2)
def putW (ws : Ws) (k : List Int) (b : Addr) (v : V) : Ws := if (ws.any fun x => decide (x.1 = k)) = true then ws.map (fun x => if x.1 = k then (x.1, x.2.1, v) else x) else ws ++ [(k, b, v)]
theorem items_ints {P : Program} {w : World} : ∀ {k : List Int} {its : List Value}, Vals (k.map V.int) its → ItemsAre (intKind P w) k its
  | [], _, .nil => .nil
  | i :: k, _, .cons r t => .cons (by obtain ⟨u, rfl⟩ := r; simp [intKind, Value.isInt]) (items_ints t)
section
variable {X : Cx} {pins : List (Addr × Obj)} {σ : L2.St} {H : Hp} {s : Shared} {a b : Addr} {k : List Int} {ws : Ws}
theorem keyI (I : Inv X pins σ H s) (h : SqT X.K H a (k.map V.int)) : (tupleKind (intKind X.prog X.w)).is s.heap k a := by
  obtain ⟨its, r, ⟨o, e, c, n, d⟩, z⟩ := I.tuple h
  exact ⟨o, its.toArray, n, e, c, d, by simpa using items_ints r⟩
theorem KI.mem {ws : Ws} {xs : Xs} (r : KI ws xs) : ∀ x ∈ xs, ∃ p ∈ ws, p.1 = x.1 ∧ p.2.1 = x.2.1 := by
  unfold KI at r
  induction r with
  | nil => intro x hx; exact nomatch hx
  | @cons p q ps qs h t ih =>
    intro x hx
    rcases List.mem_cons.mp hx with e | hx
    · subst e; exact ⟨p, List.mem_cons_self, h.1, h.2.1⟩
    · obtain ⟨p', h1, h2⟩ := ih x hx
      exact ⟨p', List.mem_cons_of_mem _ h1, h2⟩
theorem KI.keys {ws : Ws} {xs : Xs} (r : KI ws xs) : ws.map (·.1) = xs.map (·.1) := by
  unfold KI at r
  induction r with
  | nil => rfl
  | @cons p q ps qs h t ih => rw [List.map_cons, List.map_cons, h.1, ih]
theorem KI.addrs {ws : Ws} {xs : Xs} (r : KI ws xs) : ws.map (fun x => x.2.1) = xs.map (fun x => x.2.1) := by
  unfold KI at r
  induction r with
  | nil => rfl
  | @cons p q ps qs h t ih => rw [List.map_cons, List.map_cons, h.2.1, ih]
theorem KI.at {ws : Ws} {xs : Xs} (r : KI ws xs) (k : List Int) : (getW ws k = none ∧ atKey xs k = none) ∨ ∃ v p, getW ws k = some v ∧ atKey xs k = some p ∧ RelV v p.2 := by
  unfold KI at r
  induction r with
  | nil => exact .inl ⟨rfl, rfl⟩
  | @cons p q ps qs h t ih =>
    by_cases e : p.1 = k
    · exact .inr ⟨p.2.2, q.2, by simp [getW, List.find?_cons, e], by simp [atKey, List.find?_cons, ← h.1, e], h.2.2⟩
    · have g1 : getW (p :: ps) k = getW ps k := by simp [getW, List.find?_cons, e]
      have g2 : atKey (q :: qs) k = atKey qs k := by simp [atKey, List.find?_cons, ← h.1, e]
      rw [g1, g2]
      exact ih
theorem KI.any {ws : Ws} {xs : Xs} (r : KI ws xs) (k : List Int) : (ws.any fun x => decide (x.1 = k)) = (atKey xs k).isSome := by
  unfold KI at r
  induction r with
  | nil => rfl
  | @cons p q ps qs h t ih =>
    by_cases e : p.1 = k
    · simp [atKey, List.find?_cons, ← h.1, e]
    · have g2 : atKey (q :: qs) k = atKey qs k := by simp [atKey, List.find?_cons, ← h.1, e]
      rw [g2, ← ih, List.any_cons, decide_eq_false e, Bool.false_or]
theorem KI.upd {ws : Ws} {xs : Xs} (r : KI ws xs) (k : List Int) {v : V} {u : Value} (rv : RelV v u) : KI (ws.map (fun x => if x.1 = k then (x.1, x.2.1, v) else x)) (xs.map (putAt k u)) := by
  unfold KI at r ⊢
  induction r with
  | nil => exact .nil
  | @cons p q ps qs h t ih =>
    rw [List.map_cons, List.map_cons]
    refine .cons ?_ ih
    unfold putAt
    by_cases e : p.1 = k
    · rw [if_pos e, if_pos (h.1 ▸ e)]
      exact ⟨h.1, h.2.1, rv⟩
    · rw [if_neg e, if_neg (h.1 ▸ e)]
      exact h
theorem Paired.app {α β : Type} {F : α → β → Prop} : ∀ {l₁ : List α} {l₂ : List β} {m₁ : List α} {m₂ : List β}, Paired F l₁ l₂ → Paired F m₁ m₂ → Paired F (l₁ ++ m₁) (l₂ ++ m₂)
  | _, _, _, _, .nil, h => h
  | _, _, _, _, .cons r t, h => .cons r (Paired.app t h)
theorem KI.put {ws : Ws} {xs : Xs} (r : KI ws xs) (k : List Int) (b : Addr) {v : V} {u : Value} (rv : RelV v u) : KI (putW ws k b v) (storedH xs k b u) := by
  unfold putW storedH
  rw [r.any k]
  by_cases e : (atKey xs k).isSome = true
  · rw [if_pos e, if_pos e]
    exact r.upd k rv
  · rw [if_neg e, if_neg e]
    exact Paired.app r (.cons ⟨rfl, rfl, rv⟩ .nil)
theorem putW_len (ws : Ws) (k : List Int) (b : Addr) (v : V) : (putW ws k b v).length ≤ ws.length + 1 := by
  unfold putW
  split
  · rw [List.length_map]; omega
  · rw [List.length_append]; exact Nat.le_refl _
theorem putW_keys {K : PySem.W.Frag} {H : Hp} {ws : Ws} {k : List Int} {b : Addr} {v : V} (h : ∀ x ∈ ws, SqT K H x.2.1 (x.1.map V.int)) (hb : SqT K H b (k.map V.int)) : ∀ x ∈ putW ws k b v, SqT K H x.2.1 (x.1.map V.int) := by
  unfold putW
  split
  · intro x hx
    obtain ⟨y, hy, e⟩ := List.mem_map.mp hx
    by_cases q : y.1 = k
    · rw [if_pos q] at e; subst e; exact h y hy
    · rw [if_neg q] at e; subst e; exact h y hy
  · intro x hx
    rcases List.mem_append.mp hx with hx | hx
    · exact h x hx
    · rw [List.mem_singleton.mp hx]; exact hb
theorem td_of (I : Inv X pins σ H s) (e : H a = some (TDO a ws)) (hk : ∀ x ∈ ws, SqT X.K H x.2.1 (x.1.map V.int)) :
    ws.length ≤ sizeLine ∧ (a == sysModules) = false ∧ ∃ xs, KI ws xs ∧ s.heap.DictOfH (tupleKind (intKind X.prog X.w)) a xs := by
  obtain ⟨⟨z, hd, nd, xs, r, o, es, ep, h1, h2, h3, h4⟩, _, _⟩ := (show ObjOk X.prog X.w H s.heap a (.ext (TD a ws)) from I.hok a _ e)
  refine ⟨z, hd, xs, r, o, es, ep, h1, h2, h3, h4 _ _, ?_, ?_⟩
  · intro x hx
    obtain ⟨p, hp, e1, e2⟩ := KI.mem r x hx
    rw [← e1, ← e2]
    exact keyI I (hk p hp)
  · rw [KI.keys r] at nd; exact nd
theorem td_new {P : Program} {w : World} {H' : Hp} {h' : Heap} {xs : Xs} (z : ws.length ≤ sizeLine) (hd : (a == sysModules) = false) (r : KI ws xs) (dd : h'.DictOfH (tupleKind (intKind P w)) a xs) : ObjOk P w H' h' a (TDO a ws) := by
  obtain ⟨o, es, ep, h1, h2, h3, h4, _, h5⟩ := dd
  refine ⟨⟨z, hd, by rw [KI.keys r]; exact h5, xs, r, o, es, ep, h1, h2, h3, fun _ _ => h4⟩, ⟨o, h1⟩, ?_⟩
  rintro g1 g2 ⟨z, hd, nd, xs, r, o, es, ep, h1, h2⟩ hs
  exact ⟨z, hd, nd, xs, r, o, es, ep, hs o h1, h2⟩
end

/-! ### the operations -/
def rTIn (K : PySem.W.Frag) (neg : Bool) : R2 := fun y x H Q => ∃ a b k ws, x = .ref a ∧ y = .ref b ∧ H a = some (TDO a ws) ∧ (∀ x ∈ ws, SqT K H x.2.1 (x.1.map V.int)) ∧ SqT K H b (k.map V.int) ∧ Q (.bl (if neg then !(getW ws k).isSome else (getW ws k).isSome)) H
section
variable {X : Cx} {o i e value : Expr} {pos pos' : Pos} {td ty tv : TE}
theorem op_tin (hu : X.A.units + 64 < cLine) : OpR X (compareOp .In) (rTIn X.K false) := by
  have hu : X.A.units + 1 < cLine := by omega
  intro pins s σ H x y u v Q I rx ry h
  obtain ⟨a, b, k, ws, rfl, rfl, e, hk, hb, q⟩ := h
  obtain rfl : u = Value.ref b := rx
  obtain rfl : v = Value.ref a := ry
  obtain ⟨z, hd, xs, rel, dd⟩ := td_of I e hk
  refine wpAny_in_heap (tupleKind_room_in1 hu) (keyI I hb) hd dd ⟨_, H, I.tok _, ?_, q⟩
  have e1 : (getW ws k).isSome = (atKey xs k).isSome := by
    rcases KI.at rel k with ⟨h1, h2⟩ | ⟨v, p, h1, h2, _⟩ <;> rw [h1, h2] <;> rfl
  rw [← e1]
  rfl
theorem op_tnotin (hu : X.A.units + 64 < cLine) : OpR X (compareOp .NotIn) (rTIn X.K true) := by
  have hu : X.A.units + 1 < cLine := by omega
  intro pins s σ H x y u v Q I rx ry h
  obtain ⟨a, b, k, ws, rfl, rfl, e, hk, hb, q⟩ := h
  obtain rfl : u = Value.ref b := rx
  obtain rfl : v = Value.ref a := ry
  obtain ⟨z, hd, xs, rel, dd⟩ := td_of I e hk
  refine wpAny_notIn_heap (tupleKind_room_in1 hu) (keyI I hb) hd dd ⟨_, H, I.tok _, ?_, q⟩
  have e1 : (getW ws k).isSome = (atKey xs k).isSome := by
    rcases KI.at rel k with ⟨h1, h2⟩ | ⟨v, p, h1, h2, _⟩ <;> rw [h1, h2] <;> rfl
  rw [← e1]
  rfl
def tTGet (K : PySem.W.Frag) (td ty : TE) : TE := fun σ H Q => td σ H fun x H1 => ty σ H1 fun y H2 => ∃ a b k ws v, x = .ref a ∧ y = .ref b ∧ H2 a = some (TDO a ws) ∧ (∀ x ∈ ws, SqT K H2 x.2.1 (x.1.map V.int)) ∧ SqT K H2 b (k.map V.int) ∧ getW ws k = some v ∧ Q v H2
theorem pe_tget (hu : X.A.units + 1 < cLine) (ho : PE X o td) (hi : PE X i ty) (hs : NoSl i) : PE X (.Subscript o i pos) (tTGet X.K td ty) := by
  refine ⟨fun pins s σ H Q I h => ?_⟩
  refine subD_of PySem.F.slot_dict_getitem.lookup hs (thn (ho.run pins s σ H _ I h) fun u s1 ⟨x, H1, I1, rx, q1⟩ => thn (hi.run pins s1 σ H1 _ I1 q1) fun iv s2 ⟨y, H2, I2, ry, a, b, k, ws, v, ex, ey, e, hk, hb, g, q2⟩ => ?_)
  subst ex ey
  obtain rfl : u = Value.ref a := rx
  obtain rfl : iv = Value.ref b := ry
  obtain ⟨z, hd, xs, rel, dd⟩ := td_of I2 e hk
  rcases KI.at rel k with ⟨h1, _⟩ | ⟨v', p, h1, hp, rp⟩
  · rw [h1] at g; cases g
  · rw [h1] at g; cases g
    exact ⟨dd.typeIs, wpAny_getItem_heap (tupleKind_room_in1 hu) (keyI I2 hb) dd hp ⟨v, H2, I2.tok _, rp, q2⟩⟩
def sTPut (K : PySem.W.Frag) (td ty tv : TE) : TS := fun D σ H => tv σ H fun v H1 => td σ H1 fun x H2 => ty σ H2 fun y H3 => ∃ a b k ws, x = .ref a ∧ y = .ref b ∧ H3 a = some (TDO a ws) ∧ (∀ x ∈ ws, SqT K H3 x.2.1 (x.1.map V.int)) ∧ SqT K H3 b (k.map V.int) ∧ ws.length < sizeLine ∧
  D.nx σ (upd H3 a (TDO a (putW ws k b v)))
theorem ps_tput (hu : X.A.units + 1 < cLine) (ho : PE X o td) (hi : PE X i ty) (hv : PE X value tv) (hs : swapsWith value (some (.Subscript o i pos')) pos.line X.env = pure false) :
    PS X (.Assign [.Subscript o i pos'] value pos) (sTPut X.K td ty tv) := by
  refine ⟨fun pins s σ H D I h => ?_⟩
  refine wpAny_Assign_Subscript (thn (hv.run pins s σ H _ I h) fun r s1 ⟨v, H1, I1, rv, q1⟩ => thn (ho.run pins s1 σ H1 _ I1 q1) fun u s2 ⟨x, H2, I2, rx, q2⟩ => thn (hi.run pins s2 σ H2 _ I2 q2) fun iv s3 ⟨y, H3, I3, ry, a, b, k, ws, ex, ey, e, hk, hb, hl, q3⟩ => ?_) hs
  subst ex ey
  obtain rfl : u = Value.ref a := rx
  obtain rfl : iv = Value.ref b := ry
  obtain ⟨z, hd, xs, rel, dd⟩ := td_of I3 e hk
  have hz : xs.length ≤ sizeLine := by rw [← Paired.length rel]; exact z
  have hl2 : (putW ws k b v).length ≤ sizeLine := by have := putW_len ws k b v; omega
  refine wpAny_setItem_heap (hsz := hz) (tupleKind_room_in1 hu) (keyI I3 hb) dd fun h' dd' hs => ⟨σ, _, ?_, q3⟩
  have he : ∃ q, h'.get? a = some q := let ⟨q, _, _, hq, _⟩ := dd'; ⟨q, hq⟩
  exact d_write I3 (by rw [e]; exact True.intro) hs he (td_new hl2 hd (KI.put rel k b rv) dd')
def tTDisp (K : PySem.W.Frag) (tk tv : TE) : TE := fun σ H Q => ∀ p, H p = none → tk σ (upd H p (TDO p [])) fun x H1 => tv σ H1 fun y H2 => ∃ b k, x = .ref b ∧ H2 p = some (TDO p []) ∧ SqT K H2 b (k.map V.int) ∧ Q (.ref p) (upd H2 p (TDO p [(k, b, y)]))
theorem pe_tdisp {kx vx : Expr} (hu : X.A.units < cLine) (hk : PE X kx ty) (hv : PE X vx tv) : PE X (.Dict [some kx] [vx] pos) (tTDisp X.K ty tv) := by
  refine ⟨fun pins s σ H Q I q => ?_⟩
  have hn := I.hok.fresh (Nat.le_refl s.heap.objs.size)
  have hsys : (s.heap.objs.size == sysModules) = false := beq_eq_false_iff_ne.mpr (Ne.symm (Nat.ne_of_lt I.big))
  have I1 := I.laid (a := s.heap.objs.size) (o := TDO s.heap.objs.size []) (h' := s.heap.push { cls := .type "dict", data := .dict #[] }) (t' := s.toks) (fun _ _ q => Heap.get?_push_of_some _ q) (Nat.le_refl _)
    (td_new (P := X.prog) (w := X.w) (Nat.zero_le _) hsys (xs := []) .nil (Heap.DictOfH.new s.heap))
  rw [arm_eval_Dict, zip_pairTrees [some kx] [vx] X.env pos rfl rfl, dictDisplay_pairs _ (by simp [pairTrees]) (by simp [pairTrees])]
  refine wpAny_bind (wpAny_standAt (wpAny_bind (wpAny_subDictH (knd := tupleKind (intKind X.prog X.w)) hu (by simp [pairTrees]) ?_)))
  refine pairTrees_cons_walk (thn (hk.run pins _ σ _ _ I1 (q _ hn)) fun u s1 ⟨x, H1, I2, rx, q1⟩ => thn (hv.run pins s1 σ H1 _ I2 q1) fun w2 s2 ⟨y, H2, I3, ry, b, k, ex, e, hb, q2⟩ => pairTrees_nil_walk ?_)
  subst ex
  obtain rfl : u = Value.ref b := rx
  obtain ⟨z, hd, xs, rel, dd⟩ := td_of I3 e (fun x hx => nomatch hx)
  cases rel
  refine ⟨[(k, b, w2)], ⟨rfl, rfl, keyI I3 hb, True.intro⟩, dd, fun h' tk dd' hs => wpAny_pure ⟨.ref s.heap.objs.size, _, ?_, rfl, q2⟩⟩
  have he : ∃ q, h'.get? s.heap.objs.size = some q := let ⟨q, _, _, hq, _⟩ := dd'; ⟨q, hq⟩
  exact d_write I3 (by rw [e]; exact True.intro) hs he (td_new (ws := [(k, b, y)]) (by rw [sizeLine_eq]; exact (by decide : (1 : Nat) ≤ 16777216)) hd (.cons ⟨rfl, rfl, ry⟩ .nil) dd')
theorem call_list_tI (hc : X.calm = true) : CallR X (.type "list") (fun xs H Q => ∃ d ws, xs = [V.ref d] ∧ H d = some (TDO d ws) ∧ (∀ x ∈ ws, SqT X.K H x.2.1 (x.1.map V.int)) ∧ ∀ p, H p = none → Q (.ref p) (upd H p (.lst (ws.map fun x => V.ref x.2.1)))) := by
  intro pins s σ H xs us Q I r h
  obtain ⟨d, ws, rfl, hd, hk, q⟩ := h
  obtain ⟨u, rfl, rx⟩ := r.one
  cases rx
  obtain ⟨z, hs, ks, pr, o, es, ep, ho, hx, hdt, he, _, hn⟩ := td_of I hd hk
  have l1 : es.size = ks.length := size_of_entries he
  have l2 : ws.length = ks.length := Paired.length pr
  refine PySem.W.kdl_call (kdl_raw hs hx hdt) (I.ok.hd hc) ho (by omega) fun h' tk acc' c' kp e it => ?_
  have ea : acc'.toList = ks.map fun x => Value.ref x.2.1 := by
    have hl : acc'.toList.length = ks.length := by rw [Array.length_toList, it.1]; exact l1
    apply List.ext_getElem?
    intro j
    rw [List.getElem?_map]
    cases hj : acc'.toList[j]? with
    | none =>
      have h1 := List.getElem?_eq_none_iff.mp hj
      rw [List.getElem?_eq_none (by omega)]
      all_goals rfl
    | some v =>
      obtain ⟨en, hen, hv⟩ := it.2 j v (by rw [← Array.getElem?_toList]; exact hj)
      have qe := entry_at he j
      rw [hen] at qe
      cases hb : ks[j]? with
      | none =>
        rw [hb] at qe
        exact nomatch (show some en = none from qe)
      | some b =>
        rw [hb] at qe
        have e2 : en = entryOfKey (tupleKind (intKind X.prog X.w)) b := Option.some.inj qe
        rw [hv, e2]
        all_goals rfl
  have eb : acc'.toList = (ks.map fun x => x.2.1).map Value.ref := by rw [ea, List.map_map]; all_goals rfl
  have ec : (ws.map fun x => V.ref x.2.1) = (ks.map fun x => x.2.1).map V.ref := by rw [← KI.addrs pr, List.map_map]; all_goals rfl
  have rv : Vals (ws.map fun x => V.ref x.2.1) acc'.toList := by rw [ec, eb]; exact vals_refs _
  have hz : (ws.map fun x => V.ref x.2.1).length ≤ sizeLine := by rw [List.length_map]; omega
  refine ⟨.ref s.heap.objs.size, _, I.laid (t' := tk) (o := .lst (ws.map fun x => V.ref x.2.1)) kp (Nat.le_refl _) ?_, rfl, q _ (I.hok.fresh (Nat.le_refl _))⟩
  exact ⟨hz, acc'.toList, c', rv, by rw [Array.toArray_toList]; exact e⟩
end

/-! ### what they make of data -/
def intsD : List D → Option (List Int)
  | [] => some []
  | .int i :: r => (intsD r).map (i :: ·)
  | _ => none
def getI (kvs : List (List Int × D)) (k : List Int) : Option D := (kvs.find? fun x => decide (x.1 = k)).map (·.2)
def putI (kvs : List (List Int × D)) (k : List Int) (d : D) : List (List Int × D) := if (kvs.any fun x => decide (x.1 = k)) = true then kvs.map (fun x => if x.1 = k then (x.1, d) else x) else kvs ++ [(k, d)]
section
variable {K : PySem.W.Frag} {T : List (Addr × Str)} {G : Gx} {H : Hp} {ρ : List Addr} {st : Sto}
theorem ints_of : ∀ {ds : List D} {vs : List V} {k : List Int}, EVs K H ρ ds vs → intsD ds = some k → vs = k.map V.int
  | [], _, k, .nil, e => by cases e; rfl
  | .int i :: r, _, k, .cons h t, e => by
    cases h
    unfold intsD at e
    cases q : intsD r with
    | none => rw [q] at e; cases e
    | some k' =>
      rw [q] at e
      cases e
      rw [ints_of t q]
      rfl
  | .non :: _, _, _, .cons _ _, e => nomatch e
  | .bl _ :: _, _, _, .cons _ _, e => nomatch e
  | .str _ :: _, _, _, .cons _ _, e => nomatch e
  | .tup _ :: _, _, _, .cons _ _, e => nomatch e
  | .ref _ :: _, _, _, .cons _ _, e => nomatch e
  | .ty _ :: _, _, _, .cons _ _, e => nomatch e
  | .kl _ :: _, _, _, .cons _ _, e => nomatch e
  | .ob _ :: _, _, _, .cons _ _, e => nomatch e
theorem evs_ints : ∀ k : List Int, EVs K H ρ (k.map D.int) (k.map V.int)
  | [] => .nil
  | i :: k => .cons (.int i) (evs_ints k)
/-- a tuple of ints, as a key -/
def D.ik : D → Option (List Int)
  | .tup ds => intsD ds
  | _ => none
theorem ik_of {d : D} {v : V} {k : List Int} (e : EV K H ρ d v) (h : d.ik = some k) : ∃ b, v = .ref b ∧ SqT K H b (k.map V.int) := by
  cases e with
  | @tup a ds vs h1 h2 => exact ⟨a, rfl, by rw [← ints_of h2 h]; exact h1⟩
  | _ => cases h
theorem getI_of {k : List Int} : ∀ {kvs : List (List Int × D)} {ws : Ws}, kvs.map (·.1) = ws.map (·.1) → EVs K H ρ (kvs.map (·.2)) (ws.map (·.2.2)) →
    (getI kvs k = none ∧ getW ws k = none) ∨ ∃ d v, getI kvs k = some d ∧ getW ws k = some v ∧ EV K H ρ d v
  | [], [], _, _ => .inl ⟨rfl, rfl⟩
  | [], _ :: _, e, _ => by cases e
  | _ :: _, [], e, _ => by cases e
  | (k1, d) :: kvs, (k2, b, v) :: ws, e, h => by
    rw [List.map_cons, List.map_cons] at e h
    have e1 : k1 = k2 := (List.cons.inj e).1
    subst e1
    cases h with
    | cons h1 h2 =>
      by_cases q : k1 = k
      · exact .inr ⟨d, v, by simp [getI, List.find?_cons, q], by simp [getW, List.find?_cons, q], h1⟩
      · have ih := getI_of (k := k) (List.cons.inj e).2 h2
        have g1 : getI ((k1, d) :: kvs) k = getI kvs k := by simp [getI, List.find?_cons, q]
        have g2 : getW ((k1, b, v) :: ws) k = getW ws k := by simp [getW, List.find?_cons, q]
        rw [g1, g2]
        exact ih
theorem anyI {k : List Int} : ∀ {kvs : List (List Int × D)} {ws : Ws}, kvs.map (·.1) = ws.map (·.1) → (kvs.any fun x => decide (x.1 = k)) = ws.any fun x => decide (x.1 = k)
  | [], [], _ => rfl
  | [], _ :: _, e => by cases e
  | _ :: _, [], e => by cases e
  | (k1, d) :: kvs, (k2, v) :: ws, e => by
    rw [List.map_cons, List.map_cons] at e
    have e1 : k1 = k2 := (List.cons.inj e).1
    subst e1
    rw [List.any_cons, List.any_cons, anyI (List.cons.inj e).2]
theorem mapI {k : List Int} {d : D} {v : V} (hd : EV K H ρ d v) : ∀ {kvs : List (List Int × D)} {ws : Ws}, kvs.map (·.1) = ws.map (·.1) → EVs K H ρ (kvs.map (·.2)) (ws.map (·.2.2)) →
    (kvs.map fun x => if x.1 = k then (x.1, d) else x).map (·.1) = (ws.map fun x => if x.1 = k then (x.1, x.2.1, v) else x).map (·.1) ∧ EVs K H ρ ((kvs.map fun x => if x.1 = k then (x.1, d) else x).map (·.2)) ((ws.map fun x => if x.1 = k then (x.1, x.2.1, v) else x).map (·.2.2))
  | [], [], _, _ => ⟨rfl, .nil⟩
  | [], _ :: _, e, _ => by cases e
  | _ :: _, [], e, _ => by cases e
  | (k1, d1) :: kvs, (k2, b, v1) :: ws, e, h => by
    rw [List.map_cons, List.map_cons] at e h
    have e1 : k1 = k2 := (List.cons.inj e).1
    subst e1
    cases h with
    | cons h1 h2 =>
      obtain ⟨i1, i2⟩ := mapI (k := k) hd (List.cons.inj e).2 h2
      simp only [List.map_cons]
      by_cases q : k1 = k
      · simp only [q, if_true]
        exact ⟨by rw [i1], .cons hd i2⟩
      · simp only [q, if_false]
        exact ⟨by rw [i1], .cons h1 i2⟩
theorem putI_of {k : List Int} {b : Addr} {d : D} {v : V} {kvs : List (List Int × D)} {ws : Ws} (hd : EV K H ρ d v) (e : kvs.map (·.1) = ws.map (·.1)) (h : EVs K H ρ (kvs.map (·.2)) (ws.map (·.2.2))) :
    (putI kvs k d).map (·.1) = (putW ws k b v).map (·.1) ∧ EVs K H ρ ((putI kvs k d).map (·.2)) ((putW ws k b v).map (·.2.2)) := by
  unfold putI putW
  rw [anyI e]
  by_cases q : (ws.any fun x => decide (x.1 = k)) = true
  · rw [if_pos q, if_pos q]
    exact mapI hd e h
  · rw [if_neg q, if_neg q, List.map_append, List.map_append, List.map_append, List.map_append]
    exact ⟨by rw [e]; rfl, h.append (.cons hd .nil)⟩
theorem code_ne {c : Addr} {q : Str} {ws : Ws} : LamX.CodeO c q ≠ TDO c ws := fun e => by
  have e' := HO.ext.inj e
  have t : Tok := 0
  have hs : (Array.replicate c (default : Obj)).size = c := Array.size_replicate
  have hh : Heap.get? { objs := (Array.replicate c (default : Obj)).push { cls := .none, data := .fields #[.none, .str q t] } } c = some { cls := .none, data := .fields #[.none, .str q t] } := by
    unfold Heap.get?
    have : ((Array.replicate c (default : Obj)).push { cls := Value.none, data := .fields #[.none, .str q t] })[c]? = some { cls := Value.none, data := .fields #[.none, .str q t] } := by
      rw [Array.getElem?_push, hs, if_pos rfl]
    dsimp only
    rw [this]
  have z := (congrFun e' _).mp ⟨_, _, t, hh, rfl, rfl⟩
  obtain ⟨_, _, _, xs, _, o, es, ep, h1, _, h3, _⟩ := z
  rw [hh] at h1
  cases h1
  cases h3
theorem tabs_tt {p : Addr} {ws : Ws} {u : HO} (hp : H p = some (TDO p ws)) (t : LamX.Tabs T H) : LamX.Tabs T (upd H p u) := fun q hq => by
  obtain ⟨ps, h1, h2, h3⟩ := t q hq
  refine ⟨ps, ?_, h2, fun pos cv hc => ?_⟩
  · rw [upd_ne (ne_of h1 hp (fun z => nomatch z))]
    exact h1
  · obtain ⟨c, e1, e2⟩ := h3 pos cv hc
    refine ⟨c, e1, ?_⟩
    rw [upd_ne (fun z => by subst z; rw [hp] at e2; exact code_ne (Option.some.inj e2).symm)]
    exact e2
/-- an object of the store is written -/
theorem Fr.writeT {p : Addr} {φ : Heap → Prop} {u : HO} (hm : p ∈ ρ) (hp : H p = some (.ext φ)) : Fr H ρ (upd H p u) ρ where
  pre := ⟨[], (List.append_nil _).symm⟩
  keep := fun a u h n _ => by rw [upd_ne (show a ≠ p from fun e => n (by rw [e]; exact hm))]; exact h
  tup := fun a u h => by rw [upd_ne (ne_of h hp (fun z => nomatch z))]; exact h
  frz := fun a u z h => by rw [upd_ne (ne_of h hp (fun z => nomatch z))]; exact h
  new := fun _ h n => absurd h n
theorem Fr.rd' {H' : Hp} {ρ' : List Addr} (f : Fr H ρ H' ρ') {ws : Ws} (h : ∀ x ∈ ws, SqT K H x.2.1 (x.1.map V.int)) : ∀ x ∈ ws, SqT K H' x.2.1 (x.1.map V.int) := fun x hx => f.rd (h x hx)
theorem ES.writeT {p : Addr} {i : Nat} {ws ws' : Ws} {kvs : List (List Int × D)} (e : ES K T H ρ st) (hi : ρ[i]? = some p) (hp : H p = some (TDO p ws)) (hk : kvs.map (·.1) = ws'.map (·.1)) (hs : ∀ x ∈ ws', SqT K H x.2.1 (x.1.map V.int)) (h : EVs K H ρ (kvs.map (·.2)) (ws'.map (·.2.2))) :
    ES K T (upd H p (TDO p ws')) ρ (st.set i (.dtt kvs)) where
  tabs := tabs_tt hp e.tabs
  len := by rw [List.length_set]; exact e.len
  nd := e.nd
  cell := fun j a c h1 h2 => by
    have Fw : Fr H ρ (upd H p (TDO p ws')) ρ := Fr.writeT (List.mem_of_getElem? hi) hp
    by_cases hj : j = i
    · subst hj
      rw [hi] at h1
      cases h1
      have hl : j < st.length := by rw [← e.len]; exact (List.getElem?_eq_some_iff.mp hi).1
      rw [List.getElem?_set_self hl] at h2
      cases h2
      exact ⟨ws', upd_same, hk, fun x hx => Fw.rd (hs x hx), h.mono Fw⟩
    · rw [List.getElem?_set_ne (Ne.symm hj)] at h2
      have hap : a ≠ p := fun z => hj (nd_get e.nd (z ▸ h1) hi)
      exact (e.cell j a c h1 h2).mono Fw fun o h _ => by rw [upd_ne hap]; exact h
theorem ES.layT {p : Addr} (e : ES K T H ρ st) (hp : H p = Option.none) : ES K T (upd H p (TDO p [])) (ρ ++ [p]) (st ++ [.dtt []]) where
  tabs := tabs_of (keepN hp) e.tabs
  len := by rw [List.length_append, List.length_append, e.len]; rfl
  nd := by
    rw [List.nodup_append]
    refine ⟨e.nd, by simp, fun a ha b hb z => ?_⟩
    rw [List.mem_singleton.mp hb] at z
    exact e.fresh hp (z ▸ ha)
  cell := fun i a c h1 h2 => by
    have Fl : Fr H ρ (upd H p (TDO p [])) (ρ ++ [p]) := Fr.laidS hp
    by_cases hi : i < ρ.length
    · rw [List.getElem?_append_left hi] at h1
      rw [List.getElem?_append_left (by rw [← e.len]; exact hi)] at h2
      exact (e.cell i a c h1 h2).mono Fl fun o h _ => by rw [upd_ne (ne_of_none h hp)]; exact h
    · have hl : i = ρ.length := by
        have := (List.getElem?_eq_some_iff.mp h1).1
        rw [List.length_append, List.length_singleton] at this
        omega
      subst hl
      rw [List.getElem?_append_right (Nat.le_refl _), Nat.sub_self] at h1
      rw [e.len, List.getElem?_append_right (Nat.le_refl _), Nat.sub_self] at h2
      cases h1
      cases h2
      exact ⟨[], upd_same, rfl, (fun (x : List Int × Addr × V) (hx : x ∈ []) => absurd hx (by simp)), EVs.nil⟩
/-! y in d, y not in d -/
def memT (neg : Bool) : F2 := fun y x st => match y.ik, x with
  | some k, .ref n => match st[n]? with
    | some (.dtt kvs) => .ok (.bl (if neg then !(getI kvs k).isSome else (getI kvs k).isSome)) st
    | _ => .no
  | _, _ => .no
theorem os_memT {neg : Bool} : OpS K G (rTIn K neg) (memT neg) := by
  intro x y vx vy ρ st H Q ex ey es h
  unfold memT at h
  split at h
  · rename_i k n hk
    obtain ⟨b, rfl, hb⟩ := ik_of ex hk
    obtain ⟨a, rfl, hn⟩ := ey.ofRef
    split at h
    · rename_i kvs q
      obtain ⟨ws, q1, q2, q3, q4⟩ := es.cell n a _ hn q
      refine ⟨a, b, k, ws, rfl, rfl, q1, q3, hb, ?_⟩
      have e1 : (getW ws k).isSome = (getI kvs k).isSome := by
        rcases getI_of (k := k) q2 q4 with ⟨z1, z2⟩ | ⟨d, v, z1, z2, _⟩ <;> rw [z1, z2] <;> rfl
      rw [e1]
      exact h.now (.bl _) es
    · exact h.elim
  · exact h.elim
/-! list(d) -/
def listTD : FN := fun xs st => match xs with
  | [.ref n] => match st[n]? with
    | some (.dtt kvs) => .ok (.ref st.length) (st ++ [.lst (kvs.map fun x => .tup (x.1.map D.int))])
    | _ => .no
  | _ => .no
theorem evs_keys : ∀ {kvs : List (List Int × D)} {ws : Ws}, kvs.map (·.1) = ws.map (·.1) → (∀ x ∈ ws, SqT K H x.2.1 (x.1.map V.int)) → EVs K H ρ (kvs.map fun x => D.tup (x.1.map D.int)) (ws.map fun x => V.ref x.2.1)
  | [], [], _, _ => .nil
  | [], _ :: _, e, _ => by cases e
  | _ :: _, [], e, _ => by cases e
  | (k1, d) :: kvs, (k2, b, v) :: ws, e, h => by
    rw [List.map_cons, List.map_cons] at e
    have e1 : k1 = k2 := (List.cons.inj e).1
    subst e1
    exact .cons (.tup (h _ List.mem_cons_self) (evs_ints k1)) (evs_keys (List.cons.inj e).2 fun x hx => h x (List.mem_cons_of_mem _ hx))
theorem cs_listT : CallS K G (fun xs H Q => ∃ d ws, xs = [V.ref d] ∧ H d = some (TDO d ws) ∧ (∀ x ∈ ws, SqT K H x.2.1 (x.1.map V.int)) ∧ ∀ p, H p = none → Q (.ref p) (upd H p (.lst (ws.map fun x => V.ref x.2.1)))) listTD := by
  intro xs vs ρ st H Q e es h
  unfold listTD at h
  split at h
  · rename_i n
    split at h
    · rename_i kvs q
      obtain ⟨v, rfl, ev⟩ := e.one rfl
      obtain ⟨a, rfl, hn⟩ := ev.ofRef
      obtain ⟨ws, q1, q2, q3, q4⟩ := es.cell n a _ hn q
      exact ⟨a, ws, rfl, q1, q3, newL h (evs_keys q2 q3) es⟩
    · exact h.elim
  · exact h.elim
def Key.d : Key → D
  | .inl i => .int i
  | .inr s => .str s
def listKD : FN := fun xs st => match xs with
  | [.ref n] => match st[n]? with
    | some (.dct kvs) => .ok (.ref st.length) (st ++ [.lst (kvs.map fun x => Key.d x.1)])
    | _ => .no
  | _ => .no
theorem evs_kd : ∀ {kvs : List (Key × D)} {vvs : List (Key × V)}, kvs.map (·.1) = vvs.map (·.1) → EVs K H ρ (kvs.map fun x => Key.d x.1) (vvs.map fun kv => kV kv.1)
  | [], [], _ => .nil
  | [], _ :: _, e => by cases e
  | _ :: _, [], e => by cases e
  | (k1, d) :: kvs, (k2, v) :: vvs, e => by
    rw [List.map_cons, List.map_cons] at e
    have e1 : k1 = k2 := (List.cons.inj e).1
    subst e1
    refine .cons ?_ (evs_kd (List.cons.inj e).2)
    cases k1 with
    | inl i => exact .int i
    | inr s => exact .str s
theorem cs_listK : CallS K G (fun xs H Q => ∃ (a : Addr) (kvs : List (Key × V)), xs = [.ref a] ∧ Rd H a (.dK kvs) ∧ ∀ p, H p = none → Q (.ref p) (upd H p (.lst (kvs.map fun kv => kV kv.1)))) listKD := by
  intro xs vs ρ st H Q e es h
  unfold listKD at h
  split at h
  · rename_i n
    split at h
    · rename_i kvs q
      obtain ⟨v, rfl, ev⟩ := e.one rfl
      obtain ⟨a, rfl, hn⟩ := ev.ofRef
      obtain ⟨vvs, q1, q2, q3⟩ := es.cell n a _ hn q
      exact ⟨a, vvs, rfl, .inl q1, newL h (evs_kd q2) es⟩
    · exact h.elim
  · exact h.elim
end
/-! d[k], d[k] = v, {k: v} -/
def dTGet (a b : ME) : ME := fun env st => (a env st).bind fun o st => (b env st).bind fun y st => match o, y.ik with
  | .ref n, some k => match st[n]? with
    | some (.dtt kvs) => match getI kvs k with
      | some d => .ok d st
      | none => .no
    | _ => .no
  | _, _ => .no
def dKGet (a b : ME) : ME := fun env st => (a env st).bind fun o st => (b env st).bind fun y st => match o, y.key with
  | .ref n, some k => match st[n]? with
    | some (.dct kvs) => match getK kvs k with
      | some d => .ok d st
      | none => .no
    | _ => .no
  | _, _ => .no
def sTPutD (o i v : ME) : MS := fun env st => (v env st).toS fun d st => (o env st).toS fun x st => (i env st).toS fun y st => match x, y.ik with
  | .ref n, some k => match st[n]? with
    | some (.dtt kvs) => if kvs.length < 100000 then .nx env (st.set n (.dtt (putI kvs k d))) else .no
    | _ => .no
  | _, _ => .no
def dTDisp (k v : ME) : ME := fun env st => (k env (st ++ [.dtt []])).bind fun y st1 => (v env st1).bind fun z st2 => match y.ik, st2[st.length]? with
  | some key, some (.dtt []) => .ok (.ref st.length) (st2.set st.length (.dtt [(key, z)]))
  | _, _ => .no
section
variable {X : Cx} {G : Gx} {o i e : Expr} {to ti te : TE} {mo mi me : ME} {pos pos' : Pos}
theorem se_tget (hu : X.A.units + 64 < cLine) (ho : SE X G o to mo) (hi : SE X G i ti mi) (hs : NoSl i := by exact fun _ _ => rfl) : SE X G (.Subscript o i pos) (tTGet X.K to ti) (dTGet mo mi) := ⟨pe_tget (by omega) ho.pe hi.pe hs, fun σ env ρ st H Q ev es h => by
  refine sd_bin ho hi ev es h fun x y vx vy ρ2 st2 H2 e1 e2 es2 _ h2 => ?_
  split at h2
  · rename_i n k hk
    obtain ⟨b, rfl, hb⟩ := ik_of e2 hk
    obtain ⟨a, rfl, hn⟩ := e1.ofRef
    split at h2
    · rename_i kvs q
      obtain ⟨ws, q1, q2, q3, q4⟩ := es2.cell n a _ hn q
      rcases getI_of (k := k) q2 q4 with ⟨z1, z2⟩ | ⟨d, v, z1, z2, z3⟩
      · rw [z1] at h2; exact h2.elim
      · rw [z1] at h2
        exact ⟨a, b, k, ws, v, rfl, rfl, q1, q3, hb, z2, h2.now z3 es2⟩
    · exact h2.elim
  · exact h2.elim⟩
theorem se_kget (hu : X.A.units + 64 < cLine) (ho : SE X G o to mo) (hi : SE X G i ti mi) (hs : NoSl i := by exact fun _ _ => rfl) : SE X G (.Subscript o i pos) (tDGet to ti) (dKGet mo mi) := ⟨pe_dget (by omega) ho.pe hi.pe hs, fun σ env ρ st H Q ev es h => by
  refine sd_bin ho hi ev es h fun x y vx vy ρ2 st2 H2 e1 e2 es2 _ h2 => ?_
  split at h2
  · rename_i n k hk
    have ek := key_of e2 hk
    subst ek
    obtain ⟨a, rfl, hn⟩ := e1.ofRef
    split at h2
    · rename_i kvs q
      obtain ⟨vvs, q1, q2, q3⟩ := es2.cell n a _ hn q
      rcases getK_of (k := k) q2 q3 with ⟨z1, z2⟩ | ⟨d, v, z1, z2, z3⟩
      · rw [z1] at h2; exact h2.elim
      · rw [z1] at h2
        exact ⟨a, v, rfl, z2 ▸ DGet.k q1, h2.now z3 es2⟩
    · exact h2.elim
  · exact h2.elim⟩
theorem ss_tput (hu : X.A.units + 64 < cLine) (ho : SE X G o to mo) (hi : SE X G i ti mi) (hv : SE X G e te me) (hs : swapsWith e (some (.Subscript o i pos')) pos.line X.env = pure false := by rfl) :
    SS X G (.Assign [.Subscript o i pos'] e pos) (sTPut X.K to ti te) (sTPutD mo mi me) := ⟨ps_tput (by omega) ho.pe hi.pe hv.pe hs, fun σ env ρ st H Z ev es h => by
  refine hv.sd σ env ρ st H _ ev es (h.bindR fun d st1 ρ1 H1 v f1 e1 es1 h1 => ?_)
  refine ho.sd σ env ρ1 st1 H1 _ (ev.mono f1) es1 (h1.bindR fun x st2 ρ2 H2 vx f2 e2 es2 h2 => ?_)
  refine hi.sd σ env ρ2 st2 H2 _ (ev.mono (f1.trans f2)) es2 (h2.bindR fun y st3 ρ3 H3 vy f3 e3 es3 h3 => ?_)
  have f13 := (f1.trans f2).trans f3
  split at h3
  · rename_i n k hk
    obtain ⟨b, rfl, hb⟩ := ik_of e3 hk
    obtain ⟨a, rfl, hn⟩ := (e2.mono f3).ofRef
    split at h3
    · rename_i kvs q
      obtain ⟨ws, q1, q2, q3, q4⟩ := es3.cell n a _ hn q
      by_cases hl : kvs.length < 100000
      · rw [if_pos hl] at h3
        have hlen : ws.length = kvs.length := by simpa using (congrArg List.length q2).symm
        obtain ⟨s1, s2⟩ := putI_of (k := k) (b := b) (e1.mono (f2.trans f3)) q2 q4
        have fw : Fr H3 ρ3 (upd H3 a (TDO a (putW ws k b v))) ρ3 := Fr.writeT (List.mem_of_getElem? hn) q1
        exact ⟨a, b, k, ws, rfl, rfl, q1, q3, hb, by rw [hlen]; exact Nat.lt_of_lt_of_le hl line5, h3 ρ3 _ σ fw (ev.mono (f13.trans fw)) (es3.writeT hn q1 s1 (putW_keys q3 hb) s2)⟩
      · rw [if_neg hl] at h3; exact h3.elim
    · exact h3.elim
  · exact h3.elim⟩
theorem se_tdisp (hu : X.A.units + 64 < cLine) (hk : SE X G i ti mi) (hv : SE X G e te me) : SE X G (.Dict [some i] [e] pos) (tTDisp X.K ti te) (dTDisp mi me) := ⟨pe_tdisp (by omega) hk.pe hv.pe, fun σ env ρ st H Q ev es h => by
  intro p hp
  have F0 : Fr H ρ (upd H p (TDO p [])) (ρ ++ [p]) := Fr.laidS hp
  have hloc : (ρ ++ [p])[st.length]? = some p := es.ref p
  refine hk.sd σ env (ρ ++ [p]) (st ++ [.dtt []]) _ _ (ev.mono F0) (es.layT hp) ((Post.shift F0 h).bind fun y st1 ρ1 H1 vy f1 e1 es1 h1 => ?_)
  refine hv.sd σ env ρ1 st1 H1 _ (ev.mono (F0.trans f1)) es1 (h1.bind fun z st2 ρ2 H2 vz f2 e2 es2 h2 => ?_)
  split at h2
  · rename_i key hkey q
    obtain ⟨b, rfl, hb⟩ := ik_of (e1.mono f2) hkey
    have hn := (f1.trans f2).get hloc
    obtain ⟨ws, q1, q2, q3, q4⟩ := es2.cell st.length p _ hn q
    have ew : ws = [] := by
      have := congrArg List.length q2
      simp at this
      exact List.eq_nil_of_length_eq_zero this.symm
    subst ew
    refine ⟨b, key, rfl, q1, hb, ?_⟩
    have fw : Fr H2 ρ2 (upd H2 p (TDO p [(key, b, vz)])) ρ2 := Fr.writeT (List.mem_of_getElem? hn) q1
    exact h2 ρ2 _ _ fw (.ref hn) (es2.writeT hn q1 rfl (fun x hx => by rw [List.mem_singleton.mp hx]; exact hb) (.cons e2 .nil))
  · exact h2.elim⟩
/-! t1 = t2 = e -/
def sAsg2 (a : ME) (g1 g2 : MG) : MS := fun env st => (a env st).toS fun d st => (g1 d env st).toS fun env st => (g2 d env st).toS fun env st => .nx env st
theorem ss_asg2 {t1 t2 : Expr} {g1 g2 : TG} {m1 m2 : MG} (ha : SE X G e te me) (h1 : SG X G t1 g1 m1) (h2 : SG X G t2 g2 m2) (hq : (assignEach [t1, t2] X.env).map (·.2) = [assign t1 X.env, assign t2 X.env] := by rfl) (hw : swappedStores [t1, t2] e X.env = pure none := by rfl) :
    SS X G (.Assign [t1, t2] e pos) (L2.tAsg2 te g1 g2) (sAsg2 me m1 m2) := ⟨ps_asg2 ha.pe h1.pe h2.pe hq hw, fun σ env ρ st H Z ev es h => by
  refine ha.sd σ env ρ st H _ ev es (h.bindR fun d st1 ρ1 H1 v f e1 es1 q => ?_)
  refine h1.sd d v σ env ρ1 st1 H1 _ e1 (ev.mono f) es1 (q.bindR fun env2 st2 ρ2 H2 σ2 f2 ev2 es2 q2 => ?_)
  exact h2.sd d v σ2 env2 ρ2 st2 H2 _ (e1.mono f2) ev2 es2 (q2.bindR fun env3 st3 ρ3 H3 σ3 f3 ev3 es3 q3 => q3 ρ3 H3 σ3 (Fr.refl H3 ρ3) ev3 es3)⟩
end
/-! sorted of ints -/
def intsOfD : List D → Option (List Int) := intsD
def insI (x : Int) : List Int → List Int
  | [] => [x]
  | y :: l => if x ≤ y then x :: y :: l else y :: insI x l
def sortInts : List Int → List Int
  | [] => []
  | x :: l => insI x (sortInts l)
theorem insI_perm (x : Int) : ∀ l : List Int, (insI x l).Perm (x :: l)
  | [] => .refl _
  | y :: l => by
    unfold insI
    split
    · exact .refl _
    · exact ((insI_perm x l).cons y).trans (List.Perm.swap x y l)
theorem insI_up {x : Int} : ∀ {l : List Int}, l.Pairwise (· ≤ ·) → (insI x l).Pairwise (· ≤ ·)
  | [], _ => by unfold insI; exact List.pairwise_singleton _ _
  | y :: l, h => by
    obtain ⟨h1, h2⟩ := List.pairwise_cons.mp h
    unfold insI
    split
    · rename_i q
      refine List.pairwise_cons.mpr ⟨fun z hz => ?_, h⟩
      rcases List.mem_cons.mp hz with rfl | hz
      · exact q
      · have := h1 z hz; omega
    · rename_i q
      refine List.pairwise_cons.mpr ⟨fun z hz => ?_, insI_up h2⟩
      rcases List.mem_cons.mp ((insI_perm x l).mem_iff.mp hz) with rfl | hz
      · omega
      · exact h1 z hz
theorem sortInts_perm : ∀ l : List Int, (sortInts l).Perm l
  | [] => .refl _
  | x :: l => (insI_perm x (sortInts l)).trans ((sortInts_perm l).cons x)
theorem sortInts_up : ∀ l : List Int, (sortInts l).Pairwise (· ≤ ·)
  | [] => List.Pairwise.nil
  | x :: l => insI_up (sortInts_up l)
def sortID : FN := fun xs st => match xs with
  | [.ref n] => match st[n]? with
    | some (.lst ds) => match intsD ds with
      | some ns => .ok (.ref st.length) (st ++ [.lst ((sortInts ns).map D.int)])
      | none => .no
    | _ => .no
  | _ => .no
theorem sort_one {ns ms : List Int} (h : ms.Perm ns) (hp : ms.Pairwise (· ≤ ·)) : ms = sortInts ns :=
  List.Perm.eq_of_pairwise (le := fun x y : Int => x ≤ y) (fun x y hx hy a b => Int.le_antisymm a b) hp (sortInts_up ns) (h.trans (sortInts_perm ns).symm)
theorem cs_sortI {K : PySem.W.Frag} {G : Gx} : CallS K G (rSortedI K) sortID := by
  intro xs vs ρ st H Q e es h
  unfold sortID at h
  split at h
  · rename_i n
    split at h
    · rename_i ds q
      split at h
      · rename_i ns hi
        obtain ⟨v, rfl, ev⟩ := e.one rfl
        obtain ⟨a, rfl, hn⟩ := ev.ofRef
        obtain ⟨ws, q1, q2⟩ := es.cell n a _ hn q
        have ew := ints_of q2 hi
        subst ew
        refine ⟨a, ns, rfl, .inl (.inl q1), fun ms p hp hs hf => ?_⟩
        rw [sort_one hp hs]
        exact newL h (evs_ints _) es p hf
      · exact h.elim
    · exact h.elim
  · exact h.elim
end Dn

set_option Elab.async false
set_option linter.all false
set_option maxRecDepth 100000
set_option maxHeartbeats 4000000
namespace Pk
open PySem PySem.Spec PyProof.Rows L2 Dn Dt Hh
def c_ALL_NUMBERS : D := (.tup [.non, .non, (.bl false), (.bl false)])
def c_BY_MULTIPLES : D := (.tup [(.str "down"), (.str "up"), (.str "rest")])
def c_NOTHING : D := (.tup [(.int 0), (.int 1)])
def c_NO_STEPS : D := (.tup [(.tup [(.int 1), (.int 1)]), (.tup [(.int 0), (.int 1)])])
def c_ONE : D := (.tup [(.int 1), (.int 1)])
def c_TIES : D := (.tup [(.str "up"), (.str "down"), (.str "even"), (.str "odd")])
def m__law_cell : MS := (sSeq (sIf (tVal (dBin eqD (dVar 0) (dLst aNil))) (sRet (dBin mulD (dVar 1) (dC (.int 7919)))) sNext) (sRet (dBin addD (dBin ixD (dVar 0) (dBin modD (dVar 1) (dCall lenD (aCons (dVar 0) aNil)))) (dBin mulD (dBin fdivD (dVar 1) (dCall lenD (aCons (dVar 0) aNil))) (dC (.int 104729))))))
def M__law_cell : FN := fun xs st => (m__law_cell (startE 2 xs) st).res
def m__law_rounds : MS := (sRet (dLc (itRng1 (aCons (dCall max2D (aCons (dC (.int 1)) (aCons (dCall min2D (aCons (dVar 1) (aCons (dCall lenD (aCons (dVar 0) aNil)) aNil))) aNil))) aNil)) [2] (mName 2) tYesD (dLst (aCons (dCall (dFn 2 M__law_cell) (aCons (dVar 0) (aCons (dVar 2) aNil))) (aCons (dC (.int 0)) aNil)))))
def M__law_rounds : FN := fun xs st => (m__law_rounds (startE 3 xs) st).res
def m__law_drawn : MS := (sSeq (sAsg (dBin modD (dBin addD (dBin mulD (dVar 0) (dC (.int 6364136223846793005))) (dBin mulD (dBin addD (dVar 1) (dC (.int 1))) (dC (.int 1442695040888963407)))) (dC (.int 340282366920938463463374607431768211507))) (mName 2)) (sSeq (sAsg (dBin modD (dBin mulD (dVar 2) (dVar 2)) (dC (.int 340282366920938463463374607431768211297))) (mName 2)) (sSeq (sAsg (dBin mulD (dBin mulD (dBin addD (dBin modD (dVar 2) (dC (.int 18446744073709551557))) (dC (.int 1))) (dBin addD (dBin fdivD (dVar 2) (dC (.int 18446744073709551557))) (dC (.int 1)))) (dVar 2)) (mName 2)) (sRet (dBin modD (dVar 2) (dC (.int 340282366920938463463374607431768211507)))))))
def M__law_drawn : FN := fun xs st => (m__law_drawn (startE 3 xs) st).res
def m__law_roll : MS := (sSeq (sIf (tVal (dBin geD (dBin ixD (dVar 0) (dC (.int 0))) (dBin powD (dC (.int 10)) (dC (.int 18))))) (sSeq (sAsg (dBin modD (dBin ixD (dVar 0) (dC (.int 0))) (dVar 1)) (mName 2)) (sSeq (sAsg (dBin fdivD (dBin ixD (dVar 0) (dC (.int 0))) (dVar 1)) (mSub (dVar 0) (dC (.int 0)) setD)) (sRet (dVar 2)))) sNext) (sSeq (sAsg (dBin addD (dBin ixD (dVar 0) (dC (.int 1))) (dC (.int 1))) (mSub (dVar 0) (dC (.int 1)) setD)) (sRet (dBin modD (dBin fdivD (dCall (dFn 2 M__law_drawn) (aCons (dBin ixD (dVar 0) (dC (.int 0))) (aCons (dBin ixD (dVar 0) (dC (.int 1))) aNil))) (dC (.int 8))) (dVar 1)))))
def M__law_roll : FN := fun xs st => (m__law_roll (startE 3 xs) st).res
def m_is_integer : MS := (sRet (dAndV (dCall isiD (aCons (dVar 0) (aCons (dC (.ty "int")) aNil))) (dNotV (dCall isiD (aCons (dVar 0) (aCons (dC (.ty "bool")) aNil))))))
def M_is_integer : FN := fun xs st => (m_is_integer (startE 1 xs) st).res
def P_is_integer : FN := pureM M_is_integer
def m_is_fraction : MS := (sSeq (sIf (tOrD (tNotD (tTru (dCall isiD (aCons (dVar 0) (aCons (dC (.ty "tuple")) aNil))))) (tVal (dBin neD (dCall lenD (aCons (dVar 0) aNil)) (dC (.int 2))))) (sRet (dC (.bl false))) sNext) (sSeq (sAsg (dVar 0) (mTup 2 (mCons (mName 2) (mCons (mName 3) mNil)))) (sSeq (sIf (tOrD (tNotD (tTru (dCall (dFn 1 P_is_integer) (aCons (dVar 2) aNil)))) (tNotD (tTru (dCall (dFn 1 P_is_integer) (aCons (dVar 3) aNil))))) (sRet (dC (.bl false))) sNext) (sSeq (sIf (tOrD (tVal (dBin gtD (dCall absD (aCons (dVar 2) aNil)) (dVar 1))) (tNotD (tVal (dChain leD leD (dC (.int 1)) (dVar 3) (dVar 1))))) (sRet (dC (.bl false))) sNext) (sRet (dBin eqD (dCall gcdD (aCons (dVar 2) (aCons (dVar 3) aNil))) (dC (.int 1))))))))
def M_is_fraction : FN := fun xs st => (m_is_fraction (startE 4 xs) st).res
def P_is_fraction : FN := pureM M_is_fraction
def m_is_tie : MS := (sRet (dAndV (dCall isiD (aCons (dVar 0) (aCons (dC (.ty "str")) aNil))) (dBin (memD false) (dVar 0) (dC c_TIES))))
def M_is_tie : FN := fun xs st => (m_is_tie (startE 1 xs) st).res
def P_is_tie : FN := pureM M_is_tie
def m_is_amount_of : MS := (sSeq (sIf (tVal (dBin (memD false) (dVar 0) (dC c_BY_MULTIPLES))) (sRet (dBin gtD (dBin ixD (dVar 1) (dC (.int 0))) (dC (.int 0)))) sNext) (sSeq (sIf (tVal (dBin eqD (dVar 0) (dC (.str "times")))) (sRet (dBin neD (dBin ixD (dVar 1) (dC (.int 0))) (dC (.int 0)))) sNext) (sRet (dBin eqD (dVar 0) (dC (.str "add"))))))
def M_is_amount_of : FN := fun xs st => (m_is_amount_of (startE 2 xs) st).res
def P_is_amount_of : FN := pureM M_is_amount_of
def m_is_step : MS := (sSeq (sIf (tOrD (tNotD (tTru (dCall isiD (aCons (dVar 0) (aCons (dC (.ty "tuple")) aNil))))) (tVal (dBin ltD (dCall lenD (aCons (dVar 0) aNil)) (dC (.int 2))))) (sRet (dC (.bl false))) sNext) (sSeq (sAsg (dBin ixD (dVar 0) (dC (.int 0))) (mName 1)) (sSeq (sAsg (dBin ixD (dVar 0) (dC (.int 1))) (mName 2)) (sSeq (sIf (tOrD (tNotD (tTru (dCall isiD (aCons (dVar 1) (aCons (dC (.ty "str")) aNil))))) (tNotD (tTru (dCall (dFn 2 P_is_fraction) (aCons (dVar 2) (aCons (dC (.int 10)) aNil)))))) (sRet (dC (.bl false))) sNext) (sSeq (sIf (tVal (dBin eqD (dVar 1) (dC (.str "near")))) (sRet (dAndV (dBin eqD (dCall lenD (aCons (dVar 0) aNil)) (dC (.int 3))) (dAndV (dCall (dFn 1 P_is_tie) (aCons (dBin ixD (dVar 0) (dC (.int 2))) aNil)) (dBin gtD (dBin ixD (dVar 2) (dC (.int 0))) (dC (.int 0)))))) sNext) (sRet (dAndV (dBin eqD (dCall lenD (aCons (dVar 0) aNil)) (dC (.int 2))) (dCall (dFn 2 P_is_amount_of) (aCons (dVar 1) (aCons (dVar 2) aNil))))))))))
def M_is_step : FN := fun xs st => (m_is_step (startE 3 xs) st).res
def P_is_step : FN := pureM M_is_step
def m_is_chain : MS := (sSeq (sIf (tOrD (tNotD (tTru (dCall isiD (aCons (dVar 0) (aCons (dC (.ty "tuple")) aNil))))) (tVal (dBin gtD (dCall lenD (aCons (dVar 0) aNil)) (dC (.int 4))))) (sRet (dC (.bl false))) sNext) (sRet (dCall allD (aCons (dLc (itSeq (dVar 0)) [1] (mName 1) tYesD (dCall (dFn 1 P_is_step) (aCons (dVar 1) aNil))) aNil))))
def M_is_chain : FN := fun xs st => (m_is_chain (startE 2 xs) st).res
def P_is_chain : FN := pureM M_is_chain
def m_check_chain : MS := (sIf (tNotD (tTru (dCall (dFn 1 P_is_chain) (aCons (dVar 0) aNil)))) (sRaise 0) sNext)
def M_check_chain : FN := fun xs st => (m_check_chain (startE 1 xs) st).res
def P_check_chain : FN := pureM M_check_chain
def m_is_line : MS := (sRet (dBin eqD (dCall lenD (aCons (dVar 0) aNil)) (dC (.int 2))))
def M_is_line : FN := fun xs st => (m_is_line (startE 1 xs) st).res
def P_is_line : FN := pureM M_is_line
def m_reduced : MS := (sSeq (sAsg (dCall gcdD (aCons (dVar 0) (aCons (dVar 1) aNil))) (mName 2)) (sRet (dTup (aCons (dBin fdivD (dVar 0) (dVar 2)) (aCons (dBin fdivD (dVar 1) (dVar 2)) aNil)))))
def M_reduced : FN := fun xs st => (m_reduced (startE 3 xs) st).res
def P_reduced : FN := pureM M_reduced
def m_plus : MS := (sRet (dCall (dFn 2 P_reduced) (aCons (dBin addD (dBin mulD (dBin ixD (dVar 0) (dC (.int 0))) (dBin ixD (dVar 1) (dC (.int 1)))) (dBin mulD (dBin ixD (dVar 1) (dC (.int 0))) (dBin ixD (dVar 0) (dC (.int 1))))) (aCons (dBin mulD (dBin ixD (dVar 0) (dC (.int 1))) (dBin ixD (dVar 1) (dC (.int 1)))) aNil))))
def M_plus : FN := fun xs st => (m_plus (startE 2 xs) st).res
def P_plus : FN := pureM M_plus
def m_raised : MS := (sSeq (sIf (tTru (dCall (dFn 1 P_is_line) (aCons (dVar 0) aNil))) (sRet (dTup (aCons (dBin ixD (dVar 0) (dC (.int 0))) (aCons (dCall (dFn 2 P_plus) (aCons (dBin ixD (dVar 0) (dC (.int 1))) (aCons (dVar 1) aNil))) aNil)))) sNext) (sSeq (sAsg (dVar 0) (mTup 4 (mCons (mName 2) (mCons (mName 3) (mCons (mName 4) (mCons (mName 5) mNil)))))) (sRet (dTup (aCons (dVar 2) (aCons (dVar 3) (aCons (dVar 4) (aCons (dCall tupleD (aCons (dLc (itSeq (dVar 5)) [6, 7, 8] (mTup 3 (mCons (mName 6) (mCons (mName 7) (mCons (mName 8) mNil)))) tYesD (dTup (aCons (dVar 6) (aCons (dCall (dFn 2 P_plus) (aCons (dVar 7) (aCons (dVar 1) aNil))) (aCons (dCall (dFn 2 P_plus) (aCons (dVar 8) (aCons (dVar 1) aNil))) aNil))))) aNil)) aNil))))))))
def M_raised : FN := fun xs st => (m_raised (startE 9 xs) st).res
def P_raised : FN := pureM M_raised
def m_times : MS := (sRet (dCall (dFn 2 P_reduced) (aCons (dBin mulD (dBin ixD (dVar 0) (dC (.int 0))) (dBin ixD (dVar 1) (dC (.int 0)))) (aCons (dBin mulD (dBin ixD (dVar 0) (dC (.int 1))) (dBin ixD (dVar 1) (dC (.int 1)))) aNil))))
def M_times : FN := fun xs st => (m_times (startE 2 xs) st).res
def P_times : FN := pureM M_times
def m_multiplied : MS := (sSeq (sAsg (dCall (dFn 2 P_times) (aCons (dBin ixD (dVar 0) (dC (.int 0))) (aCons (dVar 1) aNil))) (mName 2)) (sSeq (sIf (tTru (dCall (dFn 1 P_is_line) (aCons (dVar 0) aNil))) (sRet (dTup (aCons (dVar 2) (aCons (dCall (dFn 2 P_times) (aCons (dBin ixD (dVar 0) (dC (.int 1))) (aCons (dVar 1) aNil))) aNil)))) sNext) (sSeq (sAsg (dLc (itSeq (dBin ixD (dVar 0) (dC (.int 3)))) [4, 5, 6] (mTup 3 (mCons (mName 4) (mCons (mName 5) (mCons (mName 6) mNil)))) tYesD (dTup (aCons (dVar 4) (aCons (dCall (dFn 2 P_times) (aCons (dVar 5) (aCons (dVar 1) aNil))) (aCons (dCall (dFn 2 P_times) (aCons (dVar 6) (aCons (dVar 1) aNil))) aNil))))) (mName 3)) (sRet (dTup (aCons (dVar 2) (aCons (dBin ixD (dVar 0) (dC (.int 1))) (aCons (dCall (dFn 2 P_times) (aCons (dBin ixD (dVar 0) (dC (.int 2))) (aCons (dVar 1) aNil))) (aCons (dCall tupleD (aCons (dVar 3) aNil)) aNil)))))))))
def M_multiplied : FN := fun xs st => (m_multiplied (startE 7 xs) st).res
def P_multiplied : FN := pureM M_multiplied
def m_size : MS := (sRet (dTup (aCons (dCall absD (aCons (dBin ixD (dVar 0) (dC (.int 0))) aNil)) (aCons (dBin ixD (dVar 0) (dC (.int 1))) aNil))))
def M_size : FN := fun xs st => (m_size (startE 1 xs) st).res
def P_size : FN := pureM M_size
def m_inverse : MS := (sSeq (sAsg (dVar 0) (mTup 2 (mCons (mName 1) (mCons (mName 2) mNil)))) (sRet (dIf (tVal (dBin gtD (dVar 1) (dC (.int 0)))) (dTup (aCons (dVar 2) (aCons (dVar 1) aNil))) (dTup (aCons (dUn negD (dVar 2)) (aCons (dUn negD (dVar 1)) aNil))))))
def M_inverse : FN := fun xs st => (m_inverse (startE 3 xs) st).res
def P_inverse : FN := pureM M_inverse
def m_span_in_units : MS := (sSeq (sIf (tAndD (tVal (dBin eqD (dBin ixD (dVar 0) (dC (.int 0))) (dC (.str "near")))) (tVal (dBin (memD false) (dBin ixD (dVar 0) (dC (.int 2))) (dTup (aCons (dC (.str "even")) (aCons (dC (.str "odd")) aNil)))))) (sRet (dC (.int 2))) sNext) (sRet (dC (.int 1))))
def M_span_in_units : FN := fun xs st => (m_span_in_units (startE 1 xs) st).res
def P_span_in_units : FN := pureM M_span_in_units
def m_as_wave : MS := (sSeq (sIf (tNotD (tTru (dCall (dFn 1 P_is_line) (aCons (dVar 0) aNil)))) (sRet (dVar 0)) sNext) (sSeq (sAsg (dVar 0) (mTup 2 (mCons (mName 2) (mCons (mName 3) mNil)))) (sRet (dTup (aCons (dVar 2) (aCons (dVar 1) (aCons (dCall (dFn 2 P_times) (aCons (dVar 2) (aCons (dVar 1) aNil))) (aCons (dTup (aCons (dTup (aCons (dC c_NOTHING) (aCons (dVar 3) (aCons (dVar 3) aNil)))) aNil)) aNil))))))))
def M_as_wave : FN := fun xs st => (m_as_wave (startE 4 xs) st).res
def P_as_wave : FN := pureM M_as_wave
def m_grid_bottom : MS := (sSeq (sAsg (dVar 0) (mTup 4 (mCons (mName 2) (mCons (mName 3) (mCons (mName 4) (mCons (mName 5) mNil)))))) (sSeq (sAsg (dCall lcmD (aCons (dBin ixD (dVar 3) (dC (.int 1))) (aCons (dBin ixD (dVar 4) (dC (.int 1))) (aCons (dBin mulD (dC (.int 2)) (dBin ixD (dVar 1) (dC (.int 1)))) aNil)))) (mName 6)) (sSeq (sFor (itSeq (dVar 5)) (mTup 3 (mCons (mName 7) (mCons (mName 8) (mCons (mName 9) mNil)))) (sAsg (dCall lcmD (aCons (dVar 6) (aCons (dBin ixD (dVar 7) (dC (.int 1))) (aCons (dBin ixD (dVar 8) (dC (.int 1))) (aCons (dBin ixD (dVar 9) (dC (.int 1))) aNil))))) (mName 6))) (sRet (dBin mulD (dC (.int 2)) (dVar 6))))))
def M_grid_bottom : FN := fun xs st => (m_grid_bottom (startE 10 xs) st).res
def P_grid_bottom : FN := pureM M_grid_bottom
def m_on_grid : MS := (sRet (dBin mulD (dBin ixD (dVar 0) (dC (.int 0))) (dBin fdivD (dVar 1) (dBin ixD (dVar 0) (dC (.int 1))))))
def M_on_grid : FN := fun xs st => (m_on_grid (startE 2 xs) st).res
def P_on_grid : FN := pureM M_on_grid
def m_minus : MS := (sRet (dCall (dFn 2 P_plus) (aCons (dVar 0) (aCons (dTup (aCons (dUn negD (dBin ixD (dVar 1) (dC (.int 0)))) (aCons (dBin ixD (dVar 1) (dC (.int 1))) aNil))) aNil))))
def M_minus : FN := fun xs st => (m_minus (startE 2 xs) st).res
def P_minus : FN := pureM M_minus
def m_line_ahead : MS := (sSeq (sAsg (dVar 0) (mTup 4 (mCons (mName 1) (mCons (mName 2) (mCons (mName 3) (mCons (mName 4) mNil)))))) (sRet (dCall (dFn 2 P_plus) (aCons (dBin ixD (dBin ixD (dVar 4) (dUn negD (dC (.int 1)))) (dC (.int 2))) (aCons (dCall (dFn 2 P_minus) (aCons (dCall (dFn 2 P_times) (aCons (dVar 1) (aCons (dVar 2) aNil))) (aCons (dVar 3) aNil))) aNil)))))
def M_line_ahead : FN := fun xs st => (m_line_ahead (startE 5 xs) st).res
def P_line_ahead : FN := pureM M_line_ahead
def m_marks_of : MS := (sSeq (sAsg (dLst aNil) (mName 2)) (sSeq (sAsg (dBin ixD (dBin ixD (dVar 0) (dC (.int 0))) (dC (.int 0))) (mName 3)) (sSeq (sAsg (dCall (dFn 2 P_on_grid) (aCons (dCall (dFn 1 P_line_ahead) (aCons (dVar 0) aNil)) (aCons (dVar 1) aNil))) (mName 4)) (sSeq (sFor (itSeq (dBin ixD (dVar 0) (dC (.int 3)))) (mTup 3 (mCons (mName 5) (mCons (mName 6) (mCons (mName 7) mNil)))) (sSeq (sAsg (dCall (dFn 2 P_on_grid) (aCons (dVar 5) (aCons (dVar 1) aNil))) (mName 8)) (sSeq (sAsg (dCall (dFn 2 P_on_grid) (aCons (dVar 7) (aCons (dVar 1) aNil))) (mName 9)) (sSeq (sDrop (dMeth "list" appendD (dVar 2) (aCons (dTup (aCons (dVar 8) (aCons (dBin addD (dBin mulD (dVar 3) (dVar 8)) (dVar 4)) (aCons (dCall (dFn 2 P_on_grid) (aCons (dVar 6) (aCons (dVar 1) aNil))) (aCons (dBin addD (dBin mulD (dVar 3) (dVar 8)) (dVar 9)) aNil))))) aNil))) (sAsg (dVar 9) (mName 4)))))) (sRet (dVar 2))))))
def M_marks_of : FN := fun xs st => (m_marks_of (startE 10 xs) st).res
def m_crossings : MS := (sSeq (sIf (tVal (dBin eqD (dVar 1) (dC (.int 0)))) (sRet (dLst aNil)) sNext) (sSeq (sAsg (dIf (tVal (dBin eqD (dBin ixD (dVar 3) (dC (.int 0))) (dC (.str "near")))) (dBin fdivD (dVar 4) (dC (.int 2))) (dC (.int 0))) (mName 5)) (sSeq (sAsg (dLst aNil) (mName 6)) (sSeq (sAsg (dBin addD (dLc (itSeq (dSlice (dVar 0) (oSome (dC (.int 1))) oNone)) [8] (mName 8) tYesD (dBin ixD (dVar 8) (dC (.int 0)))) (dLst (aCons (dBin addD (dBin ixD (dBin ixD (dVar 0) (dC (.int 0))) (dC (.int 0))) (dVar 2)) aNil))) (mName 7)) (sSeq (sFor (itZip (aCons (dVar 0) (aCons (dVar 7) aNil))) (mTup 2 (mCons (mTup 4 (mCons (mName 12) (mCons (mName 13) (mCons (mName 13) (mCons (mName 14) mNil))))) (mCons (mName 9) mNil))) (sSeq (sAsg (dBin subD (dVar 4) (dBin modD (dBin mulD (dVar 1) (dBin subD (dVar 14) (dVar 5))) (dVar 4))) (mName 10)) (sFor (itRng3 (aCons (dVar 10) (aCons (dBin subD (dVar 9) (dVar 12)) (aCons (dVar 4) aNil)))) (mName 11) (sSeq (sAsg (dBin addD (dVar 14) (dBin mulD (dVar 1) (dVar 11))) (mName 15)) (sDrop (dMeth "list" appendD (dVar 6) (aCons (dTup (aCons (dBin modD (dBin addD (dVar 12) (dVar 11)) (dVar 2)) (aCons (dVar 15) (aCons (dVar 15) (aCons (dVar 15) aNil))))) aNil))))))) (sRet (dVar 6)))))))
def M_crossings : FN := fun xs st => (m_crossings (startE 16 xs) st).res
def m_tied_count : MS := (sSeq (sIf (tVal (dBin eqD (dVar 1) (dC (.str "down")))) (sRet (dVar 0)) sNext) (sSeq (sIf (tVal (dBin eqD (dVar 1) (dC (.str "up")))) (sRet (dBin addD (dVar 0) (dC (.int 1)))) sNext) (sSeq (sAsg (dBin eqD (dBin mulD (dBin fdivD (dVar 0) (dC (.int 2))) (dC (.int 2))) (dVar 0)) (mName 2)) (sRet (dIf (tVal (dBin eqD (dVar 2) (dBin eqD (dVar 1) (dC (.str "even"))))) (dVar 0) (dBin addD (dVar 0) (dC (.int 1))))))))
def M_tied_count : FN := fun xs st => (m_tied_count (startE 3 xs) st).res
def P_tied_count : FN := pureM M_tied_count
def m_nearest_count : MS := (sSeq (sIf (tVal (dBin eqD (dVar 1) (dC (.int 0)))) (sRet (dCall (dFn 2 P_tied_count) (aCons (dVar 0) (aCons (dVar 2) aNil)))) sNext) (sRet (dIf (tVal (dBin ltD (dVar 1) (dC (.int 0)))) (dVar 0) (dBin addD (dVar 0) (dC (.int 1))))))
def M_nearest_count : FN := fun xs st => (m_nearest_count (startE 3 xs) st).res
def P_nearest_count : FN := pureM M_nearest_count
def m_whole_count : MS := (sSeq (sAsg (dBin fdivD (dVar 1) (dVar 2)) (mName 3)) (sSeq (sAsg (dBin subD (dVar 1) (dBin mulD (dVar 3) (dVar 2))) (mName 4)) (sSeq (sIf (tVal (dBin eqD (dBin ixD (dVar 0) (dC (.int 0))) (dC (.str "up")))) (sRet (dIf (tVal (dBin eqD (dVar 4) (dC (.int 0)))) (dVar 3) (dBin addD (dVar 3) (dC (.int 1))))) sNext) (sSeq (sIf (tVal (dBin eqD (dBin ixD (dVar 0) (dC (.int 0))) (dC (.str "near")))) (sRet (dCall (dFn 3 P_nearest_count) (aCons (dVar 3) (aCons (dBin subD (dBin mulD (dC (.int 2)) (dVar 4)) (dVar 2)) (aCons (dBin ixD (dVar 0) (dC (.int 2))) aNil))))) sNext) (sRet (dVar 3))))))
def M_whole_count : FN := fun xs st => (m_whole_count (startE 5 xs) st).res
def P_whole_count : FN := pureM M_whole_count
def m_stepped_value : MS := (sSeq (sAsg (dBin mulD (dCall (dFn 3 P_whole_count) (aCons (dVar 0) (aCons (dVar 3) (aCons (dVar 1) aNil)))) (dVar 1)) (mName 4)) (sRet (dIf (tVal (dBin eqD (dBin ixD (dVar 0) (dC (.int 0))) (dC (.str "rest")))) (dBin subD (dVar 2) (dVar 4)) (dVar 4))))
def M_stepped_value : FN := fun xs st => (m_stepped_value (startE 5 xs) st).res
def P_stepped_value : FN := pureM M_stepped_value
def m_stepped_marks : MS := (sSeq (sAsg (dLst aNil) (mName 4)) (sSeq (sFor (itSeq (dVar 0)) (mTup 4 (mCons (mName 5) (mCons (mName 6) (mCons (mName 7) (mCons (mName 8) mNil))))) (sSeq (sAsg (dCall (dFn 4 P_stepped_value) (aCons (dVar 2) (aCons (dVar 3) (aCons (dVar 6) (aCons (dBin subD (dVar 6) (dVar 1)) aNil))))) (mName 6)) (sSeq (sAsg (dCall (dFn 4 P_stepped_value) (aCons (dVar 2) (aCons (dVar 3) (aCons (dVar 8) (aCons (dBin addD (dVar 8) (dVar 1)) aNil))))) (mName 8)) (sDrop (dMeth "list" appendD (dVar 4) (aCons (dTup (aCons (dVar 5) (aCons (dVar 6) (aCons (dCall (dFn 4 P_stepped_value) (aCons (dVar 2) (aCons (dVar 3) (aCons (dVar 7) (aCons (dVar 7) aNil))))) (aCons (dVar 8) aNil))))) aNil)))))) (sRet (dVar 4))))
def M_stepped_marks : FN := fun xs st => (m_stepped_marks (startE 9 xs) st).res
def m_repeated : MS := (sSeq (sAsg (dLst aNil) (mName 4)) (sSeq (sFor (itRng1 (aCons (dVar 3) aNil)) (mName 5) (sSeq (sAsg (dBin mulD (dVar 5) (dVar 1)) (mName 6)) (sSeq (sAsg (dBin mulD (dVar 5) (dVar 2)) (mName 7)) (sDrop (dMeth "list" extendD (dVar 4) (aCons (dLc (itSeq (dVar 0)) [8, 9, 10, 11] (mTup 4 (mCons (mName 8) (mCons (mName 9) (mCons (mName 10) (mCons (mName 11) mNil))))) tYesD (dTup (aCons (dBin addD (dVar 8) (dVar 6)) (aCons (dBin addD (dVar 9) (dVar 7)) (aCons (dBin addD (dVar 10) (dVar 7)) (aCons (dBin addD (dVar 11) (dVar 7)) aNil)))))) aNil)))))) (sRet (dVar 4))))
def M_repeated : FN := fun xs st => (m_repeated (startE 12 xs) st).res
def m_is_repeated : MS := (sSeq (sAsg (dBin fdivD (dCall lenD (aCons (dVar 0) aNil)) (dVar 1)) (mName 4)) (sSeq (sIf (tOrD (tVal (dBin neD (dBin modD (dVar 2) (dVar 4)) (dC (.int 0)))) (tVal (dBin neD (dBin modD (dVar 3) (dVar 4)) (dC (.int 0))))) (sRet (dC (.bl false))) sNext) (sSeq (sAsg (dBin fdivD (dVar 2) (dVar 4)) (mName 5)) (sSeq (sAsg (dBin fdivD (dVar 3) (dVar 4)) (mName 6)) (sSeq (sFor (itZip (aCons (dVar 0) (aCons (dSlice (dVar 0) (oSome (dVar 1)) oNone) aNil))) (mTup 2 (mCons (mTup 4 (mCons (mName 8) (mCons (mName 9) (mCons (mName 10) (mCons (mName 11) mNil))))) (mCons (mName 7) mNil))) (sIf (tVal (dBin neD (dTup (aCons (dBin addD (dVar 8) (dVar 5)) (aCons (dBin addD (dVar 10) (dVar 6)) (aCons (dBin addD (dVar 11) (dVar 6)) aNil)))) (dTup (aCons (dBin ixD (dVar 7) (dC (.int 0))) (aCons (dBin ixD (dVar 7) (dC (.int 2))) (aCons (dBin ixD (dVar 7) (dC (.int 3))) aNil)))))) (sRet (dC (.bl false))) sNext)) (sRet (dC (.bl true))))))))
def M_is_repeated : FN := fun xs st => (m_is_repeated (startE 12 xs) st).res
def m_least_many : MS := (sSeq (sFor (itRng2 (aCons (dC (.int 1)) (aCons (dCall lenD (aCons (dVar 0) aNil)) aNil))) (mName 3) (sIf (tAndD (tVal (dBin eqD (dBin modD (dCall lenD (aCons (dVar 0) aNil)) (dVar 3)) (dC (.int 0)))) (tTru (dCall (dFn 4 M_is_repeated) (aCons (dVar 0) (aCons (dVar 3) (aCons (dVar 1) (aCons (dVar 2) aNil))))))) (sRet (dVar 3)) sNext)) (sRet (dCall lenD (aCons (dVar 0) aNil))))
def M_least_many : FN := fun xs st => (m_least_many (startE 4 xs) st).res
def m_from_grid : MS := (sSeq (sAsg (dVar 0) (mTup 4 (mCons (mName 2) (mCons (mName 3) (mCons (mName 4) (mCons (mName 5) mNil)))))) (sSeq (sAsg (dLc (itSeq (dVar 5)) [7] (mName 7) (tNotD (tVal (dChain eqD eqD (dBin ixD (dVar 7) (dC (.int 1))) (dBin ixD (dVar 7) (dC (.int 2))) (dBin ixD (dVar 7) (dC (.int 3)))))) (dVar 7)) (mName 6)) (sSeq (sIf (tNotD (tTru (dVar 6))) (sRet (dTup (aCons (dC c_NOTHING) (aCons (dCall (dFn 2 P_reduced) (aCons (dBin ixD (dBin ixD (dVar 5) (dC (.int 0))) (dC (.int 2))) (aCons (dVar 1) aNil))) aNil)))) sNext) (sSeq (sAsg (dCall (dFn 3 M_least_many) (aCons (dVar 6) (aCons (dVar 3) (aCons (dVar 4) aNil)))) (mName 8)) (sSeq (sAsg (dBin fdivD (dCall lenD (aCons (dVar 6) aNil)) (dVar 8)) (mName 9)) (sSeq (sAsg (dLc (itSeq (dSlice (dVar 6) oNone (oSome (dVar 8)))) [11, 12, 13, 14] (mTup 4 (mCons (mName 11) (mCons (mName 12) (mCons (mName 13) (mCons (mName 14) mNil))))) tYesD (dTup (aCons (dCall (dFn 2 P_reduced) (aCons (dVar 11) (aCons (dVar 1) aNil))) (aCons (dCall (dFn 2 P_reduced) (aCons (dVar 13) (aCons (dVar 1) aNil))) (aCons (dCall (dFn 2 P_reduced) (aCons (dBin subD (dVar 14) (dBin mulD (dVar 2) (dVar 11))) (aCons (dVar 1) aNil))) aNil))))) (mName 10)) (sRet (dTup (aCons (dTup (aCons (dVar 2) (aCons (dC (.int 1)) aNil))) (aCons (dCall (dFn 2 P_reduced) (aCons (dBin fdivD (dVar 3) (dVar 9)) (aCons (dVar 1) aNil))) (aCons (dCall (dFn 2 P_reduced) (aCons (dBin fdivD (dVar 4) (dVar 9)) (aCons (dVar 1) aNil))) (aCons (dCall tupleD (aCons (dVar 10) aNil)) aNil))))))))))))
def M_from_grid : FN := fun xs st => (m_from_grid (startE 15 xs) st).res
def m_cut_even : MS := (sSeq (sAsg (dCall (dFn 2 P_times) (aCons (dVar 2) (aCons (dTup (aCons (dCall (dFn 1 P_span_in_units) (aCons (dVar 1) aNil)) (aCons (dC (.int 1)) aNil))) aNil))) (mName 3)) (sSeq (sAsg (dCall (dFn 2 P_as_wave) (aCons (dVar 0) (aCons (dVar 3) aNil))) (mName 4)) (sSeq (sAsg (dCall (dFn 2 P_grid_bottom) (aCons (dVar 4) (aCons (dVar 2) aNil))) (mName 5)) (sSeq (sAsg (dCall (dFn 2 P_on_grid) (aCons (dVar 2) (aCons (dVar 5) aNil))) (mName 6)) (sSeq (sAsg (dBin ixD (dBin ixD (dVar 4) (dC (.int 0))) (dC (.int 0))) (mName 7)) (sSeq (sAsg (dCall (dFn 2 P_on_grid) (aCons (dBin ixD (dVar 4) (dC (.int 1))) (aCons (dVar 5) aNil))) (mName 8)) (sSeq (sAsg (dCall (dFn 2 P_on_grid) (aCons (dBin ixD (dVar 4) (dC (.int 2))) (aCons (dVar 5) aNil))) (mName 9)) (sSeq (sAsg (dCall (dFn 2 M_marks_of) (aCons (dVar 4) (aCons (dVar 5) aNil))) (mName 10)) (sSeq (sAsg (dCall sortD (aCons (dBin addD (dVar 10) (dCall (dFn 5 M_crossings) (aCons (dVar 10) (aCons (dVar 7) (aCons (dVar 8) (aCons (dVar 1) (aCons (dVar 6) aNil))))))) aNil)) (mName 10)) (sSeq (sAsg (dBin mulD (dCall (dFn 1 P_span_in_units) (aCons (dVar 1) aNil)) (dVar 6)) (mName 3)) (sSeq (sAsg (dBin fdivD (dVar 3) (dCall gcdD (aCons (dVar 9) (aCons (dVar 3) aNil)))) (mName 11)) (sSeq (sAsg (dCall (dFn 4 M_stepped_marks) (aCons (dCall (dFn 4 M_repeated) (aCons (dVar 10) (aCons (dVar 8) (aCons (dVar 9) (aCons (dVar 11) aNil))))) (aCons (dVar 7) (aCons (dVar 1) (aCons (dVar 6) aNil))))) (mName 10)) (sSeq (sIf (tVal (dBin eqD (dBin ixD (dVar 1) (dC (.int 0))) (dC (.str "rest")))) (sRet (dCall (dFn 2 M_from_grid) (aCons (dTup (aCons (dVar 7) (aCons (dBin mulD (dVar 8) (dVar 11)) (aCons (dC (.int 0)) (aCons (dVar 10) aNil))))) (aCons (dVar 5) aNil)))) sNext) (sRet (dCall (dFn 2 M_from_grid) (aCons (dTup (aCons (dC (.int 0)) (aCons (dBin mulD (dVar 8) (dVar 11)) (aCons (dBin mulD (dVar 9) (dVar 11)) (aCons (dVar 10) aNil))))) (aCons (dVar 5) aNil)))))))))))))))))
def M_cut_even : FN := fun xs st => (m_cut_even (startE 12 xs) st).res
def P_cut_even : FN := pureM M_cut_even
def m_cut : MS := (sSeq (sAsg (dIf (tVal (dBin neD (dBin ixD (dVar 0) (dC (.int 0))) (dC c_NOTHING))) (dCall (dFn 1 P_size) (aCons (dBin ixD (dVar 0) (dC (.int 0))) aNil)) (dC c_ONE)) (mName 2)) (sSeq (sAsg (dCall (dFn 2 P_multiplied) (aCons (dVar 0) (aCons (dCall (dFn 1 P_inverse) (aCons (dVar 2) aNil)) aNil))) (mName 3)) (sSeq (sAsg (dCall (dFn 2 P_times) (aCons (dBin ixD (dVar 1) (dC (.int 1))) (aCons (dCall (dFn 1 P_inverse) (aCons (dVar 2) aNil)) aNil))) (mName 4)) (sRet (dCall (dFn 2 P_multiplied) (aCons (dCall (dFn 3 P_cut_even) (aCons (dVar 3) (aCons (dVar 1) (aCons (dVar 4) aNil)))) (aCons (dVar 2) aNil)))))))
def M_cut : FN := fun xs st => (m_cut (startE 5 xs) st).res
def P_cut : FN := pureM M_cut
def m_followed : MS := (sSeq (sFor (itSeq (dVar 1)) (mName 2) (sIf (tVal (dBin eqD (dBin ixD (dVar 2) (dC (.int 0))) (dC (.str "add")))) (sAsg (dCall (dFn 2 P_raised) (aCons (dVar 0) (aCons (dBin ixD (dVar 2) (dC (.int 1))) aNil))) (mName 0)) (sIf (tVal (dBin eqD (dBin ixD (dVar 2) (dC (.int 0))) (dC (.str "times")))) (sAsg (dCall (dFn 2 P_multiplied) (aCons (dVar 0) (aCons (dBin ixD (dVar 2) (dC (.int 1))) aNil))) (mName 0)) (sAsg (dCall (dFn 2 P_cut) (aCons (dVar 0) (aCons (dVar 2) aNil))) (mName 0))))) (sRet (dVar 0)))
def M_followed : FN := fun xs st => (m_followed (startE 3 xs) st).res
def P_followed : FN := pureM M_followed
def m_form : MS := (sSeq (sDrop (dCall (dFn 1 P_check_chain) (aCons (dVar 0) aNil))) (sRet (dCall (dFn 2 P_followed) (aCons (dC c_NO_STEPS) (aCons (dVar 0) aNil)))))
def M_form : FN := fun xs st => (m_form (startE 1 xs) st).res
def P_form : FN := pureM M_form
def m_forms_of : MS := (sRet (dTup (aCons (dCall (dFn 1 P_form) (aCons (dVar 0) aNil)) (aCons (dCall (dFn 1 P_form) (aCons (dVar 1) aNil)) aNil))))
def M_forms_of : FN := fun xs st => (m_forms_of (startE 2 xs) st).res
def P_forms_of : FN := pureM M_forms_of
def m_same : MS := (sSeq (sAsg (dCall (dFn 2 P_forms_of) (aCons (dVar 0) (aCons (dVar 1) aNil))) (mTup 2 (mCons (mName 2) (mCons (mName 3) mNil)))) (sRet (dBin eqD (dVar 2) (dVar 3))))
def M_same : FN := fun xs st => (m_same (startE 4 xs) st).res
def P_same : FN := pureM M_same
def m_least_multiple : MS := (sRet (dCall (dFn 2 P_reduced) (aCons (dCall lcmD (aCons (dBin ixD (dVar 0) (dC (.int 0))) (aCons (dBin ixD (dVar 1) (dC (.int 0))) aNil))) (aCons (dCall gcdD (aCons (dBin ixD (dVar 0) (dC (.int 1))) (aCons (dBin ixD (dVar 1) (dC (.int 1))) aNil))) aNil))))
def M_least_multiple : FN := fun xs st => (m_least_multiple (startE 2 xs) st).res
def P_least_multiple : FN := pureM M_least_multiple
def m_period_of : MS := (sRet (dIf (tTru (dCall (dFn 1 P_is_line) (aCons (dVar 0) aNil))) (dC c_ONE) (dBin ixD (dVar 0) (dC (.int 1)))))
def M_period_of : FN := fun xs st => (m_period_of (startE 1 xs) st).res
def P_period_of : FN := pureM M_period_of
def m_common_period : MS := (sRet (dCall (dFn 2 P_least_multiple) (aCons (dCall (dFn 1 P_period_of) (aCons (dVar 0) aNil)) (aCons (dCall (dFn 1 P_period_of) (aCons (dVar 1) aNil)) aNil))))
def M_common_period : FN := fun xs st => (m_common_period (startE 2 xs) st).res
def P_common_period : FN := pureM M_common_period
def m_places_of : MS := (sRet (dIf (tTru (dCall (dFn 1 P_is_line) (aCons (dVar 0) aNil))) (dTup aNil) (dBin ixD (dVar 0) (dC (.int 3)))))
def M_places_of : FN := fun xs st => (m_places_of (startE 1 xs) st).res
def P_places_of : FN := pureM M_places_of
def m_count_periods : MS := (sSeq (sAsg (dCall (dFn 1 P_period_of) (aCons (dVar 0) aNil)) (mName 2)) (sRet (dBin fdivD (dBin mulD (dBin ixD (dVar 1) (dC (.int 0))) (dBin ixD (dVar 2) (dC (.int 1)))) (dBin mulD (dBin ixD (dVar 1) (dC (.int 1))) (dBin ixD (dVar 2) (dC (.int 0)))))))
def M_count_periods : FN := fun xs st => (m_count_periods (startE 3 xs) st).res
def P_count_periods : FN := pureM M_count_periods
def m_count_places : MS := (sRet (dBin mulD (dCall lenD (aCons (dCall (dFn 1 P_places_of) (aCons (dVar 0) aNil)) aNil)) (dCall (dFn 2 P_count_periods) (aCons (dVar 0) (aCons (dVar 1) aNil)))))
def M_count_places : FN := fun xs st => (m_count_places (startE 2 xs) st).res
def P_count_places : FN := pureM M_count_places
def m_check_places : MS := (sIf (tVal (dBin gtD (dBin addD (dCall (dFn 2 P_count_places) (aCons (dVar 0) (aCons (dVar 2) aNil))) (dCall (dFn 2 P_count_places) (aCons (dVar 1) (aCons (dVar 2) aNil)))) (dC (.int 2000)))) (sRaise 2) sNext)
def M_check_places : FN := fun xs st => (m_check_places (startE 3 xs) st).res
def P_check_places : FN := pureM M_check_places
def m_growth_of : MS := (sRet (dIf (tTru (dCall (dFn 1 P_is_line) (aCons (dVar 0) aNil))) (dBin ixD (dVar 0) (dC (.int 0))) (dCall (dFn 2 P_times) (aCons (dBin ixD (dVar 0) (dC (.int 2))) (aCons (dCall (dFn 1 P_inverse) (aCons (dBin ixD (dVar 0) (dC (.int 1))) aNil)) aNil)))))
def M_growth_of : FN := fun xs st => (m_growth_of (startE 1 xs) st).res
def P_growth_of : FN := pureM M_growth_of
def m_starts_of : MS := (sSeq (sIf (tTru (dCall (dFn 1 P_is_line) (aCons (dVar 0) aNil))) (sRet (dTDisp (dC c_NOTHING) (dTup (aCons (dBin ixD (dVar 0) (dC (.int 1))) (aCons (dBin ixD (dVar 0) (dC (.int 1))) aNil))))) sNext) (sSeq (sAsg (dVar 0) (mTup 4 (mCons (mName 2) (mCons (mName 3) (mCons (mName 4) (mCons (mName 5) mNil)))))) (sSeq (sAsg (dCall (dFn 1 P_line_ahead) (aCons (dVar 0) aNil)) (mName 6)) (sSeq (sAsg (dTDisp (dC c_NOTHING) (dTup (aCons (dVar 6) (aCons (dVar 6) aNil)))) (mName 7)) (sSeq (sAsg (dCall (dFn 2 P_minus) (aCons (dVar 4) (aCons (dCall (dFn 2 P_times) (aCons (dVar 2) (aCons (dVar 3) aNil))) aNil))) (mName 8)) (sSeq (sFor (itRng1 (aCons (dCall (dFn 2 P_count_periods) (aCons (dVar 0) (aCons (dVar 1) aNil))) aNil)) (mName 9) (sSeq (sAsg (dCall (dFn 2 P_times) (aCons (dTup (aCons (dVar 9) (aCons (dC (.int 1)) aNil))) (aCons (dVar 3) aNil))) (mName 10)) (sSeq (sAsg (dCall (dFn 2 P_times) (aCons (dTup (aCons (dVar 9) (aCons (dC (.int 1)) aNil))) (aCons (dVar 4) aNil))) (mName 11)) (sSeq (sAsg (dCall (dFn 2 P_times) (aCons (dTup (aCons (dVar 9) (aCons (dC (.int 1)) aNil))) (aCons (dVar 8) aNil))) (mName 12)) (sFor (itSeq (dVar 5)) (mTup 3 (mCons (mName 13) (mCons (mName 14) (mCons (mName 15) mNil)))) (sTPutD (dVar 7) (dCall (dFn 2 P_plus) (aCons (dVar 13) (aCons (dVar 10) aNil))) (dTup (aCons (dCall (dFn 2 P_plus) (aCons (dVar 14) (aCons (dVar 11) aNil))) (aCons (dCall (dFn 2 P_plus) (aCons (dVar 15) (aCons (dVar 12) aNil))) aNil))))))))) (sRet (dVar 7))))))))
def M_starts_of : FN := fun xs st => (m_starts_of (startE 16 xs) st).res
def m_ascending : MS := (sSeq (sAsg (dC (.int 1)) (mName 1)) (sSeq (sFor (itSeq (dVar 0)) (mName 2) (sAsg (dCall lcmD (aCons (dVar 1) (aCons (dBin ixD (dVar 2) (dC (.int 1))) aNil))) (mName 1))) (sSeq (sAsg (dDc (itSeq (dVar 0)) [2] (mName 2) tYesD (dBin mulD (dBin ixD (dVar 2) (dC (.int 0))) (dBin fdivD (dVar 1) (dBin ixD (dVar 2) (dC (.int 1))))) (dVar 2)) (mName 3)) (sRet (dLc (itSeq (dCall sortID (aCons (dCall listKD (aCons (dVar 3) aNil)) aNil))) [4] (mName 4) tYesD (dKGet (dVar 3) (dVar 4)))))))
def M_ascending : FN := fun xs st => (m_ascending (startE 5 xs) st).res
def m_at_line : MS := (sRet (dCall (dFn 2 P_plus) (aCons (dCall (dFn 2 P_times) (aCons (dVar 0) (aCons (dVar 1) aNil))) (aCons (dVar 2) aNil))))
def M_at_line : FN := fun xs st => (m_at_line (startE 3 xs) st).res
def P_at_line : FN := pureM M_at_line
def m_start_at : MS := (sSeq (sIf (tVal (dBin (memT false) (dVar 1) (dVar 0))) (sRet (dTGet (dVar 0) (dVar 1))) sNext) (sRet (dTup (aCons (dCall (dFn 3 P_at_line) (aCons (dVar 2) (aCons (dVar 1) (aCons (dBin ixD (dVar 3) (dC (.int 1))) aNil)))) (aCons (dBin ixD (dVar 3) (dC (.int 1))) aNil)))))
def M_start_at : FN := fun xs st => (m_start_at (startE 4 xs) st).res
def m_list_gaps : MS := (sSeq (sAsg (dCall (dFn 2 M_starts_of) (aCons (dVar 0) (aCons (dVar 2) aNil))) (mName 3)) (sSeq (sAsg (dCall (dFn 2 M_starts_of) (aCons (dVar 1) (aCons (dVar 2) aNil))) (mName 4)) (sSeq (sAsg (dCall (dFn 1 M_ascending) (aCons (dBin addD (dCall listTD (aCons (dVar 3) aNil)) (dCall listTD (aCons (dVar 4) aNil))) aNil)) (mName 5)) (sSeq (sAsg (dCall (dFn 2 P_minus) (aCons (dBin ixD (dVar 0) (dC (.int 0))) (aCons (dBin ixD (dVar 1) (dC (.int 0))) aNil))) (mName 6)) (sSeq (sAsg (dLst aNil) (mName 7)) (sSeq (sAsg2 (dC .non) (mName 8) (mName 9)) (sSeq (sFor (itZip (aCons (dVar 5) (aCons (dBin addD (dSlice (dVar 5) (oSome (dC (.int 1))) oNone) (dLst (aCons (dVar 2) aNil))) aNil))) (mTup 2 (mCons (mName 10) (mCons (mName 11) mNil))) (sSeq (sAsg (dCall (dFn 4 M_start_at) (aCons (dVar 3) (aCons (dVar 10) (aCons (dBin ixD (dVar 0) (dC (.int 0))) (aCons (dVar 8) aNil))))) (mName 8)) (sSeq (sAsg (dCall (dFn 4 M_start_at) (aCons (dVar 4) (aCons (dVar 10) (aCons (dBin ixD (dVar 1) (dC (.int 0))) (aCons (dVar 9) aNil))))) (mName 9)) (sDrop (dMeth "list" appendD (dVar 7) (aCons (dTup (aCons (dVar 10) (aCons (dVar 11) (aCons (dCall (dFn 2 P_minus) (aCons (dBin ixD (dVar 8) (dC (.int 0))) (aCons (dBin ixD (dVar 9) (dC (.int 0))) aNil))) (aCons (dVar 6) (aCons (dCall (dFn 2 P_minus) (aCons (dBin ixD (dVar 8) (dC (.int 1))) (aCons (dBin ixD (dVar 9) (dC (.int 1))) aNil))) aNil)))))) aNil)))))) (sRet (dVar 7)))))))))
def M_list_gaps : FN := fun xs st => (m_list_gaps (startE 12 xs) st).res
def m_compared : MS := (sSeq (sAsg (dCall (dFn 2 P_forms_of) (aCons (dVar 0) (aCons (dVar 1) aNil))) (mTup 2 (mCons (mName 2) (mCons (mName 3) mNil)))) (sSeq (sAsg (dCall (dFn 2 P_common_period) (aCons (dVar 2) (aCons (dVar 3) aNil))) (mName 4)) (sSeq (sDrop (dCall (dFn 3 P_check_places) (aCons (dVar 2) (aCons (dVar 3) (aCons (dVar 4) aNil))))) (sSeq (sIf (tVal (dBin neD (dCall (dFn 1 P_growth_of) (aCons (dVar 2) aNil)) (dCall (dFn 1 P_growth_of) (aCons (dVar 3) aNil)))) (sRet (dTup (aCons (dVar 4) (aCons (dC .non) aNil)))) sNext) (sRet (dTup (aCons (dVar 4) (aCons (dCall (dFn 3 M_list_gaps) (aCons (dVar 2) (aCons (dVar 3) (aCons (dVar 4) aNil)))) aNil))))))))
def M_compared : FN := fun xs st => (m_compared (startE 5 xs) st).res
def m_unlike_share : MS := (sSeq (sAsg (dCall (dFn 2 M_compared) (aCons (dVar 0) (aCons (dVar 1) aNil))) (mTup 2 (mCons (mName 2) (mCons (mName 3) mNil)))) (sSeq (sIf (tVal (isND false (dVar 3))) (sRet (dC c_ONE)) sNext) (sSeq (sAsg (dC c_NOTHING) (mName 4)) (sSeq (sFor (itSeq (dVar 3)) (mTup 5 (mCons (mName 5) (mCons (mName 6) (mCons (mName 7) (mCons (mName 8) (mCons (mName 9) mNil)))))) (sIf (tOrD (tVal (dBin neD (dVar 8) (dC c_NOTHING))) (tVal (dBin neD (dVar 9) (dC c_NOTHING)))) (sAsg (dCall (dFn 2 P_plus) (aCons (dVar 4) (aCons (dCall (dFn 2 P_minus) (aCons (dVar 6) (aCons (dVar 5) aNil))) aNil))) (mName 4)) sNext)) (sRet (dCall (dFn 2 P_times) (aCons (dVar 4) (aCons (dCall (dFn 1 P_inverse) (aCons (dVar 2) aNil)) aNil))))))))
def M_unlike_share : FN := fun xs st => (m_unlike_share (startE 10 xs) st).res
def P_unlike_share : FN := pureM M_unlike_share
def m_is_less : MS := (sRet (dBin ltD (dBin mulD (dBin ixD (dVar 0) (dC (.int 0))) (dBin ixD (dVar 1) (dC (.int 1)))) (dBin mulD (dBin ixD (dVar 1) (dC (.int 0))) (dBin ixD (dVar 0) (dC (.int 1))))))
def M_is_less : FN := fun xs st => (m_is_less (startE 2 xs) st).res
def P_is_less : FN := pureM M_is_less
def m_greater_gap : MS := (sSeq (sIf (tOrD (tTru (dCall (dFn 2 P_is_less) (aCons (dBin ixD (dVar 0) (dC (.int 0))) (aCons (dBin ixD (dVar 1) (dC (.int 0))) aNil)))) (tAndD (tVal (dBin eqD (dBin ixD (dVar 0) (dC (.int 0))) (dBin ixD (dVar 1) (dC (.int 0))))) (tTru (dBin ixD (dVar 1) (dC (.int 1)))))) (sRet (dVar 1)) sNext) (sRet (dVar 0)))
def M_greater_gap : FN := fun xs st => (m_greater_gap (startE 2 xs) st).res
def P_greater_gap : FN := pureM M_greater_gap
def m_greatest_gap : MS := (sSeq (sAsg (dCall (dFn 2 M_compared) (aCons (dVar 0) (aCons (dVar 1) aNil))) (mTup 2 (mCons (mName 2) (mCons (mName 3) mNil)))) (sSeq (sIf (tVal (isND false (dVar 3))) (sRet (dC .non)) sNext) (sSeq (sAsg (dTup (aCons (dC c_NOTHING) (aCons (dC (.bl true)) aNil))) (mName 4)) (sSeq (sFor (itSeq (dVar 3)) (mTup 5 (mCons (mName 5) (mCons (mName 6) (mCons (mName 7) (mCons (mName 8) (mCons (mName 9) mNil)))))) (sSeq (sAsg (dBin eqD (dVar 8) (dC c_NOTHING)) (mName 10)) (sSeq (sAsg (dCall (dFn 2 P_greater_gap) (aCons (dVar 4) (aCons (dTup (aCons (dCall (dFn 1 P_size) (aCons (dVar 7) aNil)) (aCons (dC (.bl true)) aNil))) aNil))) (mName 4)) (sSeq (sAsg (dCall (dFn 2 P_greater_gap) (aCons (dVar 4) (aCons (dTup (aCons (dCall (dFn 1 P_size) (aCons (dCall (dFn 3 P_at_line) (aCons (dVar 8) (aCons (dVar 5) (aCons (dVar 9) aNil)))) aNil)) (aCons (dVar 10) aNil))) aNil))) (mName 4)) (sAsg (dCall (dFn 2 P_greater_gap) (aCons (dVar 4) (aCons (dTup (aCons (dCall (dFn 1 P_size) (aCons (dCall (dFn 3 P_at_line) (aCons (dVar 8) (aCons (dVar 6) (aCons (dVar 9) aNil)))) aNil)) (aCons (dVar 10) aNil))) aNil))) (mName 4)))))) (sRet (dVar 4))))))
def M_greatest_gap : FN := fun xs st => (m_greatest_gap (startE 11 xs) st).res
def P_greatest_gap : FN := pureM M_greatest_gap
def m_check_number : MS := (sIf (tNotD (tTru (dCall (dFn 2 P_is_fraction) (aCons (dVar 0) (aCons (dC (.int 1000000000000000000000000000000)) aNil))))) (sRaise 1) sNext)
def M_check_number : FN := fun xs st => (m_check_number (startE 1 xs) st).res
def P_check_number : FN := pureM M_check_number
def m_single : MS := (sRet (dTup (aCons (dVar 0) (aCons (dVar 0) (aCons (dC (.bl true)) (aCons (dC (.bl true)) aNil))))))
def M_single : FN := fun xs st => (m_single (startE 1 xs) st).res
def P_single : FN := pureM M_single
def m_number_on_line : MS := (sRet (dCall (dFn 2 P_times) (aCons (dCall (dFn 2 P_minus) (aCons (dVar 2) (aCons (dVar 1) aNil))) (aCons (dCall (dFn 1 P_inverse) (aCons (dVar 0) aNil)) aNil))))
def M_number_on_line : FN := fun xs st => (m_number_on_line (startE 3 xs) st).res
def P_number_on_line : FN := pureM M_number_on_line
def m_line_sources : MS := (sSeq (sAsg (dVar 0) (mTup 2 (mCons (mName 2) (mCons (mName 3) mNil)))) (sSeq (sIf (tVal (dBin neD (dVar 2) (dC c_NOTHING))) (sRet (dTup (aCons (dCall (dFn 1 P_single) (aCons (dCall (dFn 3 P_number_on_line) (aCons (dVar 2) (aCons (dVar 3) (aCons (dVar 1) aNil)))) aNil)) aNil))) sNext) (sRet (dIf (tVal (dBin eqD (dVar 3) (dVar 1))) (dTup (aCons (dC c_ALL_NUMBERS) aNil)) (dTup aNil)))))
def M_line_sources : FN := fun xs st => (m_line_sources (startE 4 xs) st).res
def P_line_sources : FN := pureM M_line_sources
def m_pieces_of : MS := (sSeq (sAsg (dVar 0) (mTup 4 (mCons (mName 1) (mCons (mName 2) (mCons (mName 3) (mCons (mName 4) mNil)))))) (sSeq (sAsg (dLst aNil) (mName 5)) (sSeq (sIf (tVal (dBin neD (dBin ixD (dBin ixD (dVar 4) (dC (.int 0))) (dC (.int 0))) (dC c_NOTHING))) (sDrop (dMeth "list" appendD (dVar 5) (aCons (dTup (aCons (dC c_NOTHING) (aCons (dBin ixD (dBin ixD (dVar 4) (dC (.int 0))) (dC (.int 0))) (aCons (dC (.bl true)) (aCons (dC (.bl false)) (aCons (dVar 1) (aCons (dCall (dFn 1 P_line_ahead) (aCons (dVar 0) aNil)) aNil))))))) aNil))) sNext) (sSeq (sAsg (dBin addD (dLc (itSeq (dSlice (dVar 4) (oSome (dC (.int 1))) oNone)) [7, 3] (mTup 3 (mCons (mName 7) (mCons (mName 3) (mCons (mName 3) mNil)))) tYesD (dVar 7)) (dLst (aCons (dVar 2) aNil))) (mName 6)) (sSeq (sFor (itZipM (aCons (dVar 4) (aCons (dVar 6) aNil))) (mTup 2 (mCons (mTup 3 (mCons (mName 7) (mCons (mName 9) (mCons (mName 10) mNil)))) (mCons (mName 8) mNil))) (sSeq (sDrop (dMeth "list" appendD (dVar 5) (aCons (dTup (aCons (dVar 7) (aCons (dVar 7) (aCons (dC (.bl true)) (aCons (dC (.bl true)) (aCons (dC c_NOTHING) (aCons (dVar 9) aNil))))))) aNil))) (sDrop (dMeth "list" appendD (dVar 5) (aCons (dTup (aCons (dVar 7) (aCons (dVar 8) (aCons (dC (.bl false)) (aCons (dC (.bl false)) (aCons (dVar 1) (aCons (dVar 10) aNil))))))) aNil))))) (sRet (dVar 5)))))))
def M_pieces_of : FN := fun xs st => (m_pieces_of (startE 11 xs) st).res
def m_turn_between : MS := (sSeq (sIf (tVal (dBin eqD (dVar 2) (dC c_NOTHING))) (sRet (dIf (tVal (dBin eqD (dVar 0) (dVar 1))) (dC (.int 0)) (dC .non))) sNext) (sSeq (sAsg (dCall (dFn 2 P_times) (aCons (dCall (dFn 2 P_minus) (aCons (dVar 1) (aCons (dVar 0) aNil))) (aCons (dCall (dFn 1 P_inverse) (aCons (dVar 2) aNil)) aNil))) (mName 3)) (sRet (dIf (tVal (dBin eqD (dBin ixD (dVar 3) (dC (.int 1))) (dC (.int 1)))) (dBin ixD (dVar 3) (dC (.int 0))) (dC .non)))))
def M_turn_between : FN := fun xs st => (m_turn_between (startE 4 xs) st).res
def P_turn_between : FN := pureM M_turn_between
def m_source_in : MS := (sSeq (sAsg (dVar 0) (mTup 6 (mCons (mName 3) (mCons (mName 4) (mCons (mName 5) (mCons (mName 6) (mCons (mName 7) (mCons (mName 8) mNil)))))))) (sSeq (sAsg (dVar 2) (mTup 4 (mCons (mName 9) (mCons (mName 10) (mCons (mName 11) (mCons (mName 9) mNil)))))) (sSeq (sIf (tVal (dBin eqD (dVar 7) (dC c_NOTHING))) (sSeq (sAsg (dCall (dFn 3 P_turn_between) (aCons (dVar 8) (aCons (dVar 1) (aCons (dVar 11) aNil)))) (mName 12)) (sSeq (sIf (tVal (isND false (dVar 12))) (sRet (dC .non)) sNext) (sSeq (sAsg (dCall (dFn 2 P_times) (aCons (dTup (aCons (dVar 12) (aCons (dC (.int 1)) aNil))) (aCons (dVar 10) aNil))) (mName 13)) (sRet (dTup (aCons (dVar 12) (aCons (dTup (aCons (dCall (dFn 2 P_plus) (aCons (dVar 3) (aCons (dVar 13) aNil))) (aCons (dCall (dFn 2 P_plus) (aCons (dVar 4) (aCons (dVar 13) aNil))) (aCons (dVar 5) (aCons (dVar 6) aNil))))) aNil))))))) sNext) (sSeq (sAsg (dCall (dFn 3 P_number_on_line) (aCons (dVar 7) (aCons (dVar 8) (aCons (dVar 1) aNil)))) (mName 14)) (sSeq (sAsg (dAndV (dOrV (dCall (dFn 2 P_is_less) (aCons (dVar 3) (aCons (dVar 14) aNil))) (dAndV (dVar 5) (dBin eqD (dVar 14) (dVar 3)))) (dCall (dFn 2 P_is_less) (aCons (dVar 14) (aCons (dVar 4) aNil)))) (mName 15)) (sRet (dIf (tTru (dVar 15)) (dTup (aCons (dC (.int 0)) (aCons (dCall (dFn 1 P_single) (aCons (dVar 14) aNil)) aNil))) (dC .non))))))))
def M_source_in : FN := fun xs st => (m_source_in (startE 16 xs) st).res
def P_source_in : FN := pureM M_source_in
def m_merged : MS := (sSeq (sAsg (dLst aNil) (mName 1)) (sSeq (sFor (itSeq (dVar 0)) (mTup 4 (mCons (mName 2) (mCons (mName 3) (mCons (mName 4) (mCons (mName 5) mNil))))) (sSeq (sIf (tAndD (tTru (dVar 1)) (tAndD (tVal (dBin eqD (dBin ixD (dBin ixD (dVar 1) (dUn negD (dC (.int 1)))) (dC (.int 1))) (dVar 2))) (tOrD (tTru (dBin ixD (dBin ixD (dVar 1) (dUn negD (dC (.int 1)))) (dC (.int 3)))) (tTru (dVar 4))))) (sAsg (dMeth "list" popD (dVar 1) aNil) (mTup 4 (mCons (mName 2) (mCons (mName 6) (mCons (mName 4) (mCons (mName 6) mNil)))))) sNext) (sDrop (dMeth "list" appendD (dVar 1) (aCons (dTup (aCons (dVar 2) (aCons (dVar 3) (aCons (dVar 4) (aCons (dVar 5) aNil))))) aNil))))) (sRet (dCall tupleD (aCons (dVar 1) aNil)))))
def M_merged : FN := fun xs st => (m_merged (startE 7 xs) st).res
def m_sources : MS := (sSeq (sDrop (dCall (dFn 1 P_check_chain) (aCons (dVar 0) aNil))) (sSeq (sDrop (dCall (dFn 1 P_check_number) (aCons (dVar 1) aNil))) (sSeq (sAsg (dCall (dFn 1 P_form) (aCons (dVar 0) aNil)) (mName 2)) (sSeq (sIf (tTru (dCall (dFn 1 P_is_line) (aCons (dVar 2) aNil))) (sRet (dCall (dFn 2 P_line_sources) (aCons (dVar 2) (aCons (dVar 1) aNil)))) sNext) (sSeq (sAsg (dLst aNil) (mName 3)) (sSeq (sFor (itEnum (aCons (dCall (dFn 1 M_pieces_of) (aCons (dVar 2) aNil)) aNil)) (mTup 2 (mCons (mName 4) (mCons (mName 5) mNil))) (sSeq (sAsg (dCall (dFn 3 P_source_in) (aCons (dVar 5) (aCons (dVar 1) (aCons (dVar 2) aNil)))) (mName 6)) (sIf (tVal (isND true (dVar 6))) (sSeq (sAsg (dVar 6) (mTup 2 (mCons (mName 7) (mCons (mName 8) mNil)))) (sDrop (dMeth "list" appendD (dVar 3) (aCons (dTup (aCons (dVar 7) (aCons (dVar 4) (aCons (dVar 8) aNil)))) aNil)))) sNext))) (sRet (dCall (dFn 1 M_merged) (aCons (dLc (itSeq (dCall sortD (aCons (dVar 3) aNil))) [9, 8] (mTup 3 (mCons (mName 9) (mCons (mName 9) (mCons (mName 8) mNil)))) tYesD (dVar 8)) aNil)))))))))
def M_sources : FN := fun xs st => (m_sources (startE 10 xs) st).res
def P_sources : FN := pureM M_sources
def fuel__law_low : Ev → Sto → Nat := fun env _ => match (env[3]? : Option (Option D)) with
  | some (some (.int i)) => i.natAbs + 2
  | _ => 0
def m__law_low : MS := (sSeq (sPar 2 3 (aCons (dCall absD (aCons (dVar 0) aNil)) (aCons (dCall absD (aCons (dVar 1) aNil)) aNil))) (sSeq (sWhile fuel__law_low (tVal (dBin neD (dVar 3) (dC (.int 0)))) (sPar 2 3 (aCons (dVar 3) (aCons (dBin modD (dVar 2) (dVar 3)) aNil)))) (sSeq (sAsg (dIf (tVal (dBin gtD (dVar 1) (dC (.int 0)))) (dVar 2) (dUn negD (dVar 2))) (mName 2)) (sRet (dTup (aCons (dBin fdivD (dVar 0) (dVar 2)) (aCons (dBin fdivD (dVar 1) (dVar 2)) aNil)))))))
def M__law_low : FN := fun xs st => (m__law_low (startE 4 xs) st).res
def P__law_low : FN := pureM M__law_low
def m_lines_ahead : MS := (sRet (dBin addD (dLst (aCons (dCall (dFn 1 P_line_ahead) (aCons (dVar 0) aNil)) aNil)) (dLc (itSeq (dSlice (dBin ixD (dVar 0) (dC (.int 3))) oNone (oSome (dUn negD (dC (.int 1)))))) [1, 2] (mTup 3 (mCons (mName 1) (mCons (mName 1) (mCons (mName 2) mNil)))) tYesD (dVar 2))))
def M_lines_ahead : FN := fun xs st => (m_lines_ahead (startE 3 xs) st).res
def m_rises : MS := (sSeq (sAsg (dCall (dFn 1 P_form) (aCons (dVar 0) aNil)) (mName 1)) (sSeq (sAsg (dBin ixD (dVar 1) (dC (.int 0))) (mName 2)) (sSeq (sIf (tTru (dCall (dFn 2 P_is_less) (aCons (dVar 2) (aCons (dC c_NOTHING) aNil)))) (sRet (dC (.bl false))) sNext) (sSeq (sIf (tTru (dCall (dFn 1 P_is_line) (aCons (dVar 1) aNil))) (sRet (dC (.bl true))) sNext) (sSeq (sFor (itZipM (aCons (dBin ixD (dVar 1) (dC (.int 3))) (aCons (dCall (dFn 1 M_lines_ahead) (aCons (dVar 1) aNil)) aNil))) (mTup 2 (mCons (mTup 3 (mCons (mName 4) (mCons (mName 5) (mCons (mName 6) mNil)))) (mCons (mName 3) mNil))) (sIf (tOrD (tTru (dCall (dFn 2 P_is_less) (aCons (dVar 5) (aCons (dCall (dFn 3 P_at_line) (aCons (dVar 2) (aCons (dVar 4) (aCons (dVar 3) aNil)))) aNil)))) (tTru (dCall (dFn 2 P_is_less) (aCons (dCall (dFn 3 P_at_line) (aCons (dVar 2) (aCons (dVar 4) (aCons (dVar 6) aNil)))) (aCons (dVar 5) aNil))))) (sRet (dC (.bl false))) sNext)) (sRet (dC (.bl true))))))))
def M_rises : FN := fun xs st => (m_rises (startE 7 xs) st).res
def P_rises : FN := pureM M_rises
def m_step_value : MS := (sSeq (sAsg (dBin ixD (dVar 0) (dC (.int 0))) (mName 2)) (sSeq (sAsg (dBin ixD (dVar 0) (dC (.int 1))) (mName 3)) (sSeq (sIf (tVal (dBin eqD (dVar 2) (dC (.str "add")))) (sRet (dCall (dFn 2 P_plus) (aCons (dVar 1) (aCons (dVar 3) aNil)))) sNext) (sSeq (sIf (tVal (dBin eqD (dVar 2) (dC (.str "times")))) (sRet (dCall (dFn 2 P_times) (aCons (dVar 1) (aCons (dVar 3) aNil)))) sNext) (sSeq (sAsg (dCall (dFn 2 P_times) (aCons (dTup (aCons (dCall (dFn 3 P_whole_count) (aCons (dVar 0) (aCons (dBin mulD (dBin ixD (dVar 1) (dC (.int 0))) (dBin ixD (dVar 3) (dC (.int 1)))) (aCons (dBin mulD (dBin ixD (dVar 1) (dC (.int 1))) (dBin ixD (dVar 3) (dC (.int 0)))) aNil)))) (aCons (dC (.int 1)) aNil))) (aCons (dVar 3) aNil))) (mName 4)) (sSeq (sIf (tVal (dBin eqD (dVar 2) (dC (.str "rest")))) (sRet (dCall (dFn 2 P_minus) (aCons (dVar 1) (aCons (dVar 4) aNil)))) sNext) (sRet (dVar 4))))))))
def M_step_value : FN := fun xs st => (m_step_value (startE 5 xs) st).res
def P_step_value : FN := pureM M_step_value
def m_value : MS := (sSeq (sDrop (dCall (dFn 1 P_check_chain) (aCons (dVar 0) aNil))) (sSeq (sDrop (dCall (dFn 1 P_check_number) (aCons (dVar 1) aNil))) (sSeq (sAsg (dVar 1) (mName 2)) (sSeq (sFor (itSeq (dVar 0)) (mName 3) (sAsg (dCall (dFn 2 P_step_value) (aCons (dVar 3) (aCons (dVar 2) aNil))) (mName 2))) (sRet (dVar 2))))))
def M_value : FN := fun xs st => (m_value (startE 4 xs) st).res
def P_value : FN := pureM M_value
def m_keeps_values : MS := (sSeq (sIf (tTru (dCall (dFn 1 P_is_line) (aCons (dVar 1) aNil))) (sRet (dC (.bl true))) sNext) (sSeq (sAsg (dVar 1) (mTup 4 (mCons (mName 2) (mCons (mName 3) (mCons (mName 4) (mCons (mName 5) mNil)))))) (sSeq (sIf (tVal (dBin (memE true) (dVar 4) (dTup (aCons (dC c_NOTHING) (aCons (dVar 3) aNil))))) (sRet (dC (.bl false))) sNext) (sSeq (sFor (itSeq (dVar 5)) (mTup 3 (mCons (mName 2) (mCons (mName 6) (mCons (mName 7) mNil)))) (sIf (tOrD (tVal (dBin neD (dCall (dFn 2 P_value) (aCons (dVar 0) (aCons (dVar 6) aNil))) (dVar 6))) (tVal (dBin neD (dCall (dFn 2 P_value) (aCons (dVar 0) (aCons (dVar 7) aNil))) (dVar 7)))) (sRet (dC (.bl false))) sNext)) (sRet (dC (.bl true)))))))
def M_keeps_values : FN := fun xs st => (m_keeps_values (startE 8 xs) st).res
def P_keeps_values : FN := pureM M_keeps_values
def m_keeps : MS := (sSeq (sAsg (dCall (dFn 1 P_form) (aCons (dVar 0) aNil)) (mName 1)) (sSeq (sIf (tVal (dBin eqD (dBin ixD (dVar 1) (dC (.int 0))) (dC c_NOTHING))) (sRet (dCall (dFn 2 P_keeps_values) (aCons (dVar 0) (aCons (dVar 1) aNil)))) sNext) (sRet (dAndV (dBin eqD (dBin ixD (dVar 1) (dC (.int 0))) (dC c_ONE)) (dBin eqD (dCall (dFn 2 P_followed) (aCons (dVar 1) (aCons (dVar 0) aNil))) (dVar 1))))))
def M_keeps : FN := fun xs st => (m_keeps (startE 2 xs) st).res
def P_keeps : FN := pureM M_keeps
def m_law : MS := (sSeq (sFor (itSeq (dCall (dFn 2 M__law_rounds) (aCons (dVar 0) (aCons (dC (.int 4)) aNil)))) (mName 1) (sSeq (sAsg (dBin addD (dC (.int 2)) (dCall (dFn 2 M__law_roll) (aCons (dVar 1) (aCons (dC (.int 9)) aNil)))) (mName 2)) (sSeq (sPar 7 8 (aCons (dTup (aCons (dC (.str "near")) (aCons (dTup (aCons (dC (.int 1)) (aCons (dC (.int 1)) aNil))) (aCons (dC (.str "up")) aNil)))) (aCons (dTup (aCons (dC (.str "near")) (aCons (dTup (aCons (dC (.int 1)) (aCons (dVar 2) aNil))) (aCons (dC (.str "up")) aNil)))) aNil))) (sSeq (sAsg (dTup (aCons (dVar 8) (aCons (dVar 7) aNil))) (mName 3)) (sSeq (sIf (tVal (dBin eqD (dBin modD (dVar 2) (dC (.int 2))) (dC (.int 1)))) (sIf (tOrD (tNotD (tTru (dCall (dFn 2 P_same) (aCons (dVar 3) (aCons (dTup (aCons (dVar 7) aNil)) aNil))))) (tVal (dBin neD (dCall (dFn 2 P_unlike_share) (aCons (dVar 3) (aCons (dTup (aCons (dVar 7) aNil)) aNil))) (dTup (aCons (dC (.int 0)) (aCons (dC (.int 1)) aNil)))))) (sRet (dC (.bl false))) sNext) (sSeq (sIf (tVal (dBin neD (dCall (dFn 2 P_unlike_share) (aCons (dVar 3) (aCons (dTup (aCons (dVar 7) aNil)) aNil))) (dTup (aCons (dC (.int 1)) (aCons (dBin mulD (dC (.int 2)) (dVar 2)) aNil))))) (sRet (dC (.bl false))) sNext) (sSeq (sIf (tVal (dBin neD (dCall (dFn 2 P_greatest_gap) (aCons (dVar 3) (aCons (dTup (aCons (dVar 7) aNil)) aNil))) (dTup (aCons (dTup (aCons (dC (.int 1)) (aCons (dC (.int 1)) aNil))) (aCons (dC (.bl true)) aNil))))) (sRet (dC (.bl false))) sNext) (sSeq (sIf (tVal (dBin neD (dCall (dFn 2 P_sources) (aCons (dVar 3) (aCons (dTup (aCons (dC (.int 1)) (aCons (dC (.int 1)) aNil))) aNil))) (dTup (aCons (dTup (aCons (dCall (dFn 2 P__law_low) (aCons (dBin subD (dVar 2) (dC (.int 1))) (aCons (dBin mulD (dC (.int 2)) (dVar 2)) aNil))) (aCons (dCall (dFn 2 P__law_low) (aCons (dBin subD (dBin mulD (dC (.int 3)) (dVar 2)) (dC (.int 1))) (aCons (dBin mulD (dC (.int 2)) (dVar 2)) aNil))) (aCons (dC (.bl true)) (aCons (dC (.bl false)) aNil))))) aNil)))) (sRet (dC (.bl false))) sNext) (sIf (tVal (dBin neD (dCall (dFn 1 P_form) (aCons (dVar 3) aNil)) (dTup (aCons (dTup (aCons (dC (.int 0)) (aCons (dC (.int 1)) aNil))) (aCons (dTup (aCons (dC (.int 1)) (aCons (dC (.int 1)) aNil))) (aCons (dTup (aCons (dC (.int 1)) (aCons (dC (.int 1)) aNil))) (aCons (dTup (aCons (dTup (aCons (dCall (dFn 2 P__law_low) (aCons (dBin subD (dVar 2) (dC (.int 1))) (aCons (dBin mulD (dC (.int 2)) (dVar 2)) aNil))) (aCons (dTup (aCons (dC (.int 1)) (aCons (dC (.int 1)) aNil))) (aCons (dTup (aCons (dC (.int 1)) (aCons (dC (.int 1)) aNil))) aNil)))) aNil)) aNil))))))) (sRet (dC (.bl false))) sNext))))) (sSeq (sAsg (dTup (aCons (dTup (aCons (dC (.str "near")) (aCons (dTup (aCons (dC (.int 1)) (aCons (dVar 2) aNil))) (aCons (dC (.str "down")) aNil)))) (aCons (dTup (aCons (dC (.str "near")) (aCons (dTup (aCons (dC (.int 1)) (aCons (dC (.int 1)) aNil))) (aCons (dC (.str "down")) aNil)))) aNil))) (mName 4)) (sSeq (sIf (tVal (dBin neD (dCall (dFn 2 P_unlike_share) (aCons (dVar 4) (aCons (dTup (aCons (dTup (aCons (dC (.str "near")) (aCons (dTup (aCons (dC (.int 1)) (aCons (dC (.int 1)) aNil))) (aCons (dC (.str "down")) aNil)))) aNil)) aNil))) (dIf (tVal (dBin eqD (dBin modD (dVar 2) (dC (.int 2))) (dC (.int 0)))) (dTup (aCons (dC (.int 1)) (aCons (dBin mulD (dC (.int 2)) (dVar 2)) aNil))) (dTup (aCons (dC (.int 0)) (aCons (dC (.int 1)) aNil)))))) (sRet (dC (.bl false))) sNext) (sSeq (sAsg (dTup (aCons (dTup (aCons (dC (.str "near")) (aCons (dTup (aCons (dC (.int 1)) (aCons (dVar 2) aNil))) (aCons (dC (.str "down")) aNil)))) (aCons (dVar 7) aNil))) (mName 5)) (sSeq (sPar 9 10 (aCons (dCall (dFn 2 P__law_low) (aCons (dUn negD (dBin addD (dVar 2) (dC (.int 1)))) (aCons (dBin mulD (dC (.int 2)) (dVar 2)) aNil))) (aCons (dCall (dFn 2 P__law_low) (aCons (dBin subD (dVar 2) (dC (.int 1))) (aCons (dBin mulD (dC (.int 2)) (dVar 2)) aNil))) aNil))) (sSeq (sIf (tAndD (tVal (dBin eqD (dBin modD (dVar 2) (dC (.int 2))) (dC (.int 0)))) (tVal (dBin neD (dCall (dFn 2 P_sources) (aCons (dVar 5) (aCons (dTup (aCons (dC (.int 0)) (aCons (dC (.int 1)) aNil))) aNil))) (dTup (aCons (dTup (aCons (dVar 9) (aCons (dVar 10) (aCons (dC (.bl false)) (aCons (dC (.bl true)) aNil))))) aNil))))) (sRet (dC (.bl false))) sNext) (sSeq (sAsg (dTup (aCons (dTup (aCons (dC (.str "times")) (aCons (dTup (aCons (dC (.int 10)) (aCons (dC (.int 1)) aNil))) aNil))) (aCons (dTup (aCons (dC (.str "near")) (aCons (dTup (aCons (dC (.int 1)) (aCons (dC (.int 1)) aNil))) (aCons (dC (.str "up")) aNil)))) (aCons (dTup (aCons (dC (.str "times")) (aCons (dTup (aCons (dC (.int 1)) (aCons (dC (.int 10)) aNil))) aNil))) (aCons (dVar 7) aNil))))) (mName 6)) (sSeq (sIf (tOrD (tNotD (tTru (dCall (dFn 2 P_same) (aCons (dVar 6) (aCons (dTup (aCons (dTup (aCons (dC (.str "near")) (aCons (dTup (aCons (dC (.int 1)) (aCons (dC (.int 10)) aNil))) (aCons (dC (.str "up")) aNil)))) (aCons (dVar 7) aNil))) aNil))))) (tVal (dBin neD (dCall (dFn 2 P_unlike_share) (aCons (dVar 6) (aCons (dTup (aCons (dVar 7) aNil)) aNil))) (dTup (aCons (dC (.int 1)) (aCons (dC (.int 20)) aNil)))))) (sRet (dC (.bl false))) sNext) (sIf (tOrD (tNotD (tTru (dCall (dFn 1 P_rises) (aCons (dVar 3) aNil)))) (tOrD (tNotD (tTru (dCall (dFn 1 P_keeps) (aCons (dVar 3) aNil)))) (tNotD (tTru (dCall (dFn 1 P_keeps) (aCons (dVar 4) aNil)))))) (sRet (dC (.bl false))) sNext))))))))))))) (sRet (dC (.bl true))))
def M_law : FN := fun xs st => (m_law (startE 11 xs) st).res

end Pk

set_option Elab.async false
set_option linter.all false
set_option maxRecDepth 100000
set_option maxHeartbeats 4000000
namespace Lw
open PySem PySem.Spec PyProof.Rows L2 Dn Dt Hh Pk
def topS (i : Nat) : Stmt := PySem.Challenge.pw_roundwaves_k10_whole_double_roundings.main.body.getD i (.Pass ⟨0, 0, 0, 0⟩)
structure Gs (K : PySem.W.Frag) (mg : Str → Option Value) (C : Nat → Addr) : Prop where
  b_abs : mg "abs" = none
  b_all : mg "all" = none
  b_bool : mg "bool" = none
  b_enumerate : mg "enumerate" = none
  b_int : mg "int" = none
  b_isinstance : mg "isinstance" = none
  b_len : mg "len" = none
  b_list : mg "list" = none
  b_max : mg "max" = none
  b_min : mg "min" = none
  b_range : mg "range" = none
  b_sorted : mg "sorted" = none
  b_str : mg "str" = none
  b_tuple : mg "tuple" = none
  b_zip : mg "zip" = none
  c_ALL_NUMBERS : KTup K mg "ALL_NUMBERS" c_ALL_NUMBERS
  c_BY_MULTIPLES : KTup K mg "BY_MULTIPLES" c_BY_MULTIPLES
  c_LARGEST_IN_NUMBER : KInt mg "LARGEST_IN_NUMBER" 1000000000000000000000000000000
  c_LARGEST_IN_STEP : KInt mg "LARGEST_IN_STEP" 10
  c_MOST_PLACES : KInt mg "MOST_PLACES" 2000
  c_MOST_STEPS : KInt mg "MOST_STEPS" 4
  c_NOTHING : KTup K mg "NOTHING" c_NOTHING
  c_NO_STEPS : KTup K mg "NO_STEPS" c_NO_STEPS
  c_ONE : KTup K mg "ONE" c_ONE
  c_TIES : KTup K mg "TIES" c_TIES
  e_InvalidChain : Exc K mg "InvalidChain" (C 0)
  e_InvalidNumber : Exc K mg "InvalidNumber" (C 1)
  e_TooMany : Exc K mg "TooMany" (C 2)
  m_gcd : mg "gcd" = some (.builtin "math.gcd")
  m_lcm : mg "lcm" = some (.builtin "math.lcm")
section
variable {P : Program} {w : World} {K : PySem.W.Frag} {mg : Str → Option Value} {base : Heap} {T : List (Addr × Str)} {C : Nat → Addr}
abbrev s__law_cell : Stmt := topS 97
abbrev N__law_cell : List Str := ["_law_script", "_law_k"]
theorem sc__law_cell : FnScope ["_law_script", "_law_k"] ["_law_script", "_law_k"] (defScope s__law_cell) := ⟨rfl, rfl, rfl, by decide +kernel, rfl, by decide +kernel, by decide +kernel⟩
theorem ok__law_cell (Γ : Gs K mg C)  {f : Addr} {fd : FuncData} (D : Def K mg "_law_cell" s__law_cell ["_law_script", "_law_k"] f fd) : Ok P w K mg base T C "_law_cell" ["_law_script", "_law_k"] 2 M__law_cell 1 := by
  exact ok_of D (fun_ok (m := m__law_cell) D.F sc__law_cell rfl (fun cdv A outer s H E hr => ⟨_, (sss_cons (ss_if (st_cmp (op_eqA hr.units) os_eq (se_var 0) (se_lst sa_nil) (nomark _)) (sss_one (ss_ret (se_bin op_mulA os_mul (se_var 1) se_int))) sss_nil) (sss_one (ss_ret (se_bin op_addA os_add (se_ix (se_var 0) (se_bin op_modN os_mod (se_var 1) (se_callB call_len cs_len rfl Γ.b_len (by decide +kernel) (sa_cons (se_var 0) sa_nil)))) (se_bin op_mulA os_mul (se_bin op_fdivA os_fdiv (se_var 1) (se_callB call_len cs_len rfl Γ.b_len (by decide +kernel) (sa_cons (se_var 0) sa_nil))) se_int)))))⟩) (fun _ _ _ _ => Tells.same _))
abbrev s__law_rounds : Stmt := topS 100
abbrev N__law_rounds : List Str := ["_law_script", "_law_most", "_law_k"]
theorem sc__law_rounds : FnScope ["_law_script", "_law_most", "_law_k"] ["_law_script", "_law_most"] (defScope s__law_rounds) := ⟨rfl, rfl, rfl, by decide +kernel, rfl, by decide +kernel, by decide +kernel⟩
theorem ok__law_rounds (Γ : Gs K mg C) (o__law_cell : Ok P w K mg base T C "_law_cell" ["_law_script", "_law_k"] 2 M__law_cell 1) {f : Addr} {fd : FuncData} (D : Def K mg "_law_rounds" s__law_rounds ["_law_script", "_law_most"] f fd) : Ok P w K mg base T C "_law_rounds" ["_law_script", "_law_most"] 2 M__law_rounds 2 := by
  exact ok_of D (fun_ok (m := m__law_rounds) D.F sc__law_rounds rfl (fun cdv A outer s H E hr => ⟨_, (sss_one (ss_ret (se_lc (own := [("_law_k", 2)]) rfl sc__law_rounds.nd (si_rng1 rfl Γ.b_range (sa_cons (se_callB (call_max2 rfl) cs_int2 rfl Γ.b_max (by decide +kernel) (sa_cons se_int (sa_cons (se_callB (call_min2 rfl) cs_int2 rfl Γ.b_min (by decide +kernel) (sa_cons (se_var 1) (sa_cons (se_callB call_len cs_len rfl Γ.b_len (by decide +kernel) (sa_cons (se_var 0) sa_nil)) sa_nil))) sa_nil))) sa_nil)) (blkOk_by (N := N__law_rounds) (sc := defScope s__law_rounds) (own := [("_law_k", 2)]) (by decide +kernel)) (fun _ _ _ _ _ => (sgo_name 2 (by decide) sc__law_rounds.nd)) (fun _ _ _ _ _ => ⟨_, sts_nil⟩) (fun _ _ _ _ _ => ⟨_, (se_lst (sa_cons (se_call o__law_cell (hr.mono (by decide)) pass_blk (sa_cons (se_var 0) (sa_cons (se_var 2) sa_nil))) (sa_cons se_int sa_nil)))⟩))))⟩) (fun _ _ _ _ => Tells.same _))
abbrev s__law_drawn : Stmt := topS 98
abbrev N__law_drawn : List Str := ["_law_cell_here", "_law_k", "_law_more"]
theorem sc__law_drawn : FnScope ["_law_cell_here", "_law_k", "_law_more"] ["_law_cell_here", "_law_k"] (defScope s__law_drawn) := ⟨rfl, rfl, rfl, by decide +kernel, rfl, by decide +kernel, by decide +kernel⟩
theorem ok__law_drawn (Γ : Gs K mg C)  {f : Addr} {fd : FuncData} (D : Def K mg "_law_drawn" s__law_drawn ["_law_cell_here", "_law_k"] f fd) : Ok P w K mg base T C "_law_drawn" ["_law_cell_here", "_law_k"] 2 M__law_drawn 1 := by
  exact ok_of D (fun_ok (m := m__law_drawn) D.F sc__law_drawn rfl (fun cdv A outer s H E hr => ⟨_, (sss_cons (ss_set 2 sc__law_drawn.nd (se_bin op_modN os_mod (se_bin op_addA os_add (se_bin op_mulA os_mul (se_var 0) se_int) (se_bin op_mulA os_mul (se_bin op_addA os_add (se_var 1) se_int) se_int)) se_int)) (sss_cons (ss_set 2 sc__law_drawn.nd (se_bin op_modN os_mod (se_bin op_mulA os_mul (se_var 2) (se_var 2)) se_int)) (sss_cons (ss_set 2 sc__law_drawn.nd (se_bin op_mulA os_mul (se_bin op_mulA os_mul (se_bin op_addA os_add (se_bin op_modN os_mod (se_var 2) se_int) se_int) (se_bin op_addA os_add (se_bin op_fdivA os_fdiv (se_var 2) se_int) se_int)) (se_var 2))) (sss_one (ss_ret (se_bin op_modN os_mod (se_var 2) se_int))))))⟩) (fun _ _ _ _ => Tells.same _))
abbrev s__law_roll : Stmt := topS 99
abbrev N__law_roll : List Str := ["_law_dice", "_law_many", "_law_told"]
theorem sc__law_roll : FnScope ["_law_dice", "_law_many", "_law_told"] ["_law_dice", "_law_many"] (defScope s__law_roll) := ⟨rfl, rfl, rfl, by decide +kernel, rfl, by decide +kernel, by decide +kernel⟩
theorem ok__law_roll (Γ : Gs K mg C) (o__law_drawn : Ok P w K mg base T C "_law_drawn" ["_law_cell_here", "_law_k"] 2 M__law_drawn 1) {f : Addr} {fd : FuncData} (D : Def K mg "_law_roll" s__law_roll ["_law_dice", "_law_many"] f fd) : Ok P w K mg base T C "_law_roll" ["_law_dice", "_law_many"] 2 M__law_roll 2 := by
  exact ok_of D (fun_ok (m := m__law_roll) D.F sc__law_roll rfl (fun cdv A outer s H E hr => ⟨_, (sss_cons (ss_if (st_cmp op_ge os_cmp (se_ix (se_var 0) se_int) (se_bin op_pow os_pow se_int se_int) (nomark _)) (sss_cons (ss_set 2 sc__law_roll.nd (se_bin op_modN os_mod (se_ix (se_var 0) se_int) (se_var 1))) (sss_cons (ss_asg (se_bin op_fdivA os_fdiv (se_ix (se_var 0) se_int) (se_var 1)) (sg_sub (se_var 0) se_int set_list ss_setL)) (sss_one (ss_ret (se_var 2))))) sss_nil) (sss_cons (ss_asg (se_bin op_addA os_add (se_ix (se_var 0) se_int) se_int) (sg_sub (se_var 0) se_int set_list ss_setL)) (sss_one (ss_ret (se_bin op_modN os_mod (se_bin op_fdivA os_fdiv (se_call o__law_drawn (hr.mono (by decide)) pass_def (sa_cons (se_ix (se_var 0) se_int) (sa_cons (se_ix (se_var 0) se_int) sa_nil))) se_int) (se_var 1))))))⟩) (fun _ _ _ _ => Tells.same _))
abbrev s_is_integer : Stmt := topS 7
abbrev N_is_integer : List Str := ["value"]
theorem sc_is_integer : FnScope ["value"] ["value"] (defScope s_is_integer) := ⟨rfl, rfl, rfl, by decide +kernel, rfl, by decide +kernel, by decide +kernel⟩
theorem ok_is_integer (Γ : Gs K mg C)  {f : Addr} {fd : FuncData} (D : Def K mg "is_integer" s_is_integer ["value"] f fd) : Ok P w K mg base T C "is_integer" ["value"] 1 M_is_integer 1 := by
  exact ok_of D (fun_ok (m := m_is_integer) D.F sc_is_integer rfl (fun cdv A outer s H E hr => ⟨_, (sss_one (ss_ret (se_and (se_callB call_isi cs_isi rfl Γ.b_isinstance (by decide +kernel) (sa_cons (se_var 0) (sa_cons (se_bty (n := "int") Γ.b_int) sa_nil))) (se_one (se_not (se_callB call_isi cs_isi rfl Γ.b_isinstance (by decide +kernel) (sa_cons (se_var 0) (sa_cons (se_bty (n := "bool") Γ.b_bool) sa_nil))))))))⟩) (fun _ _ _ _ => Tells.same _))
abbrev s_is_fraction : Stmt := topS 8
abbrev N_is_fraction : List Str := ["value", "largest", "top", "bottom"]
theorem sc_is_fraction : FnScope ["value", "largest", "top", "bottom"] ["value", "largest"] (defScope s_is_fraction) := ⟨rfl, rfl, rfl, by decide +kernel, rfl, by decide +kernel, by decide +kernel⟩
theorem ok_is_fraction (Γ : Gs K mg C) (o_is_integer : Ok P w K mg base T C "is_integer" ["value"] 1 P_is_integer 1) {f : Addr} {fd : FuncData} (D : Def K mg "is_fraction" s_is_fraction ["value", "largest"] f fd) : Ok P w K mg base T C "is_fraction" ["value", "largest"] 2 M_is_fraction 2 := by
  exact ok_of D (fun_ok (m := m_is_fraction) D.F sc_is_fraction rfl (fun cdv A outer s H E hr => ⟨_, (sss_cons (ss_if (SW.pt (sw_or (st_not (st_truth (se_callB call_isi cs_isi rfl Γ.b_isinstance (by decide +kernel) (sa_cons (se_var 0) (sa_cons (se_bty (n := "tuple") Γ.b_tuple) sa_nil))))) (sw_or1 (st_cmp (op_neA hr.units) os_ne (se_callB call_len cs_len rfl Γ.b_len (by decide +kernel) (sa_cons (se_var 0) sa_nil)) se_int (nomark _))))) (sss_one (ss_ret se_bl)) sss_nil) (sss_cons (ss_asg (se_var 0) (sg_tup rfl (sgs_cons (sg_name 2 sc_is_fraction.nd) (sgs_cons (sg_name 3 sc_is_fraction.nd) sgs_nil)))) (sss_cons (ss_if (SW.pt (sw_or (st_not (st_truth (se_call o_is_integer (hr.mono (by decide)) pass_def (sa_cons (se_var 2) sa_nil)))) (sw_or1 (st_not (st_truth (se_call o_is_integer (hr.mono (by decide)) pass_def (sa_cons (se_var 3) sa_nil))))))) (sss_one (ss_ret se_bl)) sss_nil) (sss_cons (ss_if (SW.pt (sw_or (st_cmp op_gt os_cmp (se_callB call_abs cs_abs rfl Γ.b_abs (by decide +kernel) (sa_cons (se_var 2) sa_nil)) (se_var 1) (nomark _)) (sw_or1 (st_not (st_chain op_le os_cmp op_le os_cmp se_int (se_var 3) (se_var 1)))))) (sss_one (ss_ret se_bl)) sss_nil) (sss_one (ss_ret (se_cmp (op_eqA hr.units) os_eq (se_callM cr_gcd cs_int2 rfl Γ.m_gcd (sa_cons (se_var 2) (sa_cons (se_var 3) sa_nil))) se_int (nomark _))))))))⟩) (fun _ _ _ _ => Tells.same _))
abbrev s_is_tie : Stmt := topS 22
abbrev N_is_tie : List Str := ["value"]
theorem sc_is_tie : FnScope ["value"] ["value"] (defScope s_is_tie) := ⟨rfl, rfl, rfl, by decide +kernel, rfl, by decide +kernel, by decide +kernel⟩
theorem ok_is_tie (Γ : Gs K mg C)  {f : Addr} {fd : FuncData} (D : Def K mg "is_tie" s_is_tie ["value"] f fd) : Ok P w K mg base T C "is_tie" ["value"] 1 M_is_tie 1 := by
  obtain ⟨a_TIES, h_TIES, _⟩ := id Γ.c_TIES
  exact ok_of D (fun_ok (m := m_is_tie) D.F sc_is_tie rfl (fun cdv A outer s H E hr => ⟨_, (sss_one (ss_ret (se_and (se_callB call_isi cs_isi rfl Γ.b_isinstance (by decide +kernel) (sa_cons (se_var 0) (sa_cons (se_bty (n := "str") Γ.b_str) sa_nil))) (se_one (se_cmp op_in_seq os_mem (se_var 0) (se_gtup Γ.c_TIES h_TIES) (by rfl))))))⟩) (fun _ _ _ _ => Tells.same _))
abbrev s_is_amount_of : Stmt := topS 23
abbrev N_is_amount_of : List Str := ["name", "amount"]
theorem sc_is_amount_of : FnScope ["name", "amount"] ["name", "amount"] (defScope s_is_amount_of) := ⟨rfl, rfl, rfl, by decide +kernel, rfl, by decide +kernel, by decide +kernel⟩
theorem ok_is_amount_of (Γ : Gs K mg C)  {f : Addr} {fd : FuncData} (D : Def K mg "is_amount_of" s_is_amount_of ["name", "amount"] f fd) : Ok P w K mg base T C "is_amount_of" ["name", "amount"] 2 M_is_amount_of 1 := by
  obtain ⟨a_BY_MULTIPLES, h_BY_MULTIPLES, _⟩ := id Γ.c_BY_MULTIPLES
  exact ok_of D (fun_ok (m := m_is_amount_of) D.F sc_is_amount_of rfl (fun cdv A outer s H E hr => ⟨_, (sss_cons (ss_if (st_cmp op_in_seq os_mem (se_var 0) (se_gtup Γ.c_BY_MULTIPLES h_BY_MULTIPLES) (by rfl)) (sss_one (ss_ret (se_cmp op_gt os_cmp (se_ix (se_var 1) se_int) se_int (nomark _)))) sss_nil) (sss_cons (ss_if (st_cmp (op_eqA hr.units) os_eq (se_var 0) se_str (nomark _)) (sss_one (ss_ret (se_cmp (op_neA hr.units) os_ne (se_ix (se_var 1) se_int) se_int (nomark _)))) sss_nil) (sss_one (ss_ret (se_cmp (op_eqA hr.units) os_eq (se_var 0) se_str (nomark _))))))⟩) (fun _ _ _ _ => Tells.same _))
abbrev s_is_step : Stmt := topS 21
abbrev N_is_step : List Str := ["value", "name", "amount"]
theorem sc_is_step : FnScope ["value", "name", "amount"] ["value"] (defScope s_is_step) := ⟨rfl, rfl, rfl, by decide +kernel, rfl, by decide +kernel, by decide +kernel⟩
theorem ok_is_step (Γ : Gs K mg C) (o_is_fraction : Ok P w K mg base T C "is_fraction" ["value", "largest"] 2 P_is_fraction 2) (o_is_tie : Ok P w K mg base T C "is_tie" ["value"] 1 P_is_tie 1) (o_is_amount_of : Ok P w K mg base T C "is_amount_of" ["name", "amount"] 2 P_is_amount_of 1) {f : Addr} {fd : FuncData} (D : Def K mg "is_step" s_is_step ["value"] f fd) : Ok P w K mg base T C "is_step" ["value"] 1 M_is_step 3 := by
  exact ok_of D (fun_ok (m := m_is_step) D.F sc_is_step rfl (fun cdv A outer s H E hr => ⟨_, (sss_cons (ss_if (SW.pt (sw_or (st_not (st_truth (se_callB call_isi cs_isi rfl Γ.b_isinstance (by decide +kernel) (sa_cons (se_var 0) (sa_cons (se_bty (n := "tuple") Γ.b_tuple) sa_nil))))) (sw_or1 (st_cmp op_lt os_cmp (se_callB call_len cs_len rfl Γ.b_len (by decide +kernel) (sa_cons (se_var 0) sa_nil)) se_int (nomark _))))) (sss_one (ss_ret se_bl)) sss_nil) (sss_cons (ss_set 1 sc_is_step.nd (se_ix (se_var 0) se_int)) (sss_cons (ss_set 2 sc_is_step.nd (se_ix (se_var 0) se_int)) (sss_cons (ss_if (SW.pt (sw_or (st_not (st_truth (se_callB call_isi cs_isi rfl Γ.b_isinstance (by decide +kernel) (sa_cons (se_var 1) (sa_cons (se_bty (n := "str") Γ.b_str) sa_nil))))) (sw_or1 (st_not (st_truth (se_call o_is_fraction (hr.mono (by decide)) pass_def (sa_cons (se_var 2) (sa_cons (se_gint Γ.c_LARGEST_IN_STEP) sa_nil)))))))) (sss_one (ss_ret se_bl)) sss_nil) (sss_cons (ss_if (st_cmp (op_eqA hr.units) os_eq (se_var 1) se_str (nomark _)) (sss_one (ss_ret (se_and (se_cmp (op_eqA hr.units) os_eq (se_callB call_len cs_len rfl Γ.b_len (by decide +kernel) (sa_cons (se_var 0) sa_nil)) se_int (nomark _)) (se_and (se_call o_is_tie (hr.mono (by decide)) pass_def (sa_cons (se_ix (se_var 0) se_int) sa_nil)) (se_one (se_cmp op_gt os_cmp (se_ix (se_var 2) se_int) se_int (nomark _))))))) sss_nil) (sss_one (ss_ret (se_and (se_cmp (op_eqA hr.units) os_eq (se_callB call_len cs_len rfl Γ.b_len (by decide +kernel) (sa_cons (se_var 0) sa_nil)) se_int (nomark _)) (se_one (se_call o_is_amount_of (hr.mono (by decide)) pass_def (sa_cons (se_var 1) (sa_cons (se_var 2) sa_nil))))))))))))⟩) (fun _ _ _ _ => Tells.same _))
abbrev s_is_chain : Stmt := topS 31
abbrev N_is_chain : List Str := ["value", "step"]
theorem sc_is_chain : FnScope ["value", "step"] ["value"] (defScope s_is_chain) := ⟨rfl, rfl, rfl, by decide +kernel, rfl, by decide +kernel, by decide +kernel⟩
theorem ok_is_chain (Γ : Gs K mg C) (o_is_step : Ok P w K mg base T C "is_step" ["value"] 1 P_is_step 3) {f : Addr} {fd : FuncData} (D : Def K mg "is_chain" s_is_chain ["value"] f fd) : Ok P w K mg base T C "is_chain" ["value"] 1 M_is_chain 4 := by
  exact ok_of D (fun_ok (m := m_is_chain) D.F sc_is_chain rfl (fun cdv A outer s H E hr => ⟨_, (sss_cons (ss_if (SW.pt (sw_or (st_not (st_truth (se_callB call_isi cs_isi rfl Γ.b_isinstance (by decide +kernel) (sa_cons (se_var 0) (sa_cons (se_bty (n := "tuple") Γ.b_tuple) sa_nil))))) (sw_or1 (st_cmp op_gt os_cmp (se_callB call_len cs_len rfl Γ.b_len (by decide +kernel) (sa_cons (se_var 0) sa_nil)) (se_gint Γ.c_MOST_STEPS) (nomark _))))) (sss_one (ss_ret se_bl)) sss_nil) (sss_one (ss_ret (se_callB (cr_all rfl) cs_bls rfl Γ.b_all (by decide +kernel) (sa_cons (se_lc (own := [("step", 1)]) rfl sc_is_chain.nd (si_seq (se_var 0)) (blkOk_by (N := N_is_chain) (sc := defScope s_is_chain) (own := [("step", 1)]) (by decide +kernel)) (fun _ _ _ _ _ => (sgo_name 1 (by decide) sc_is_chain.nd)) (fun _ _ _ _ _ => ⟨_, sts_nil⟩) (fun _ _ _ _ _ => ⟨_, (se_call o_is_step (hr.mono (by decide)) pass_blk (sa_cons (se_var 1) sa_nil))⟩)) sa_nil)))))⟩) (fun _ _ _ _ => Tells.same _))
abbrev s_check_chain : Stmt := topS 32
abbrev N_check_chain : List Str := ["chain"]
theorem sc_check_chain : FnScope ["chain"] ["chain"] (defScope s_check_chain) := ⟨rfl, rfl, rfl, by decide +kernel, rfl, by decide +kernel, by decide +kernel⟩
theorem ok_check_chain (Γ : Gs K mg C) (o_is_chain : Ok P w K mg base T C "is_chain" ["value"] 1 P_is_chain 4) {f : Addr} {fd : FuncData} (D : Def K mg "check_chain" s_check_chain ["chain"] f fd) : Ok P w K mg base T C "check_chain" ["chain"] 1 M_check_chain 5 := by
  exact ok_of D (fun_ok (m := m_check_chain) D.F sc_check_chain rfl (fun cdv A outer s H E hr => ⟨_, (sss_one (ss_if (st_not (st_truth (se_call o_is_chain (hr.mono (by decide)) pass_def (sa_cons (se_var 0) sa_nil)))) (sss_one (ss_raiseX (n := 0) Γ.e_InvalidChain rfl (L2N.takes_of rfl rfl rfl rfl) (fun _ _ _ _ h => h))) sss_nil))⟩) (fun _ _ _ _ => Tells.same _))
abbrev s_is_line : Stmt := topS 38
abbrev N_is_line : List Str := ["shape"]
theorem sc_is_line : FnScope ["shape"] ["shape"] (defScope s_is_line) := ⟨rfl, rfl, rfl, by decide +kernel, rfl, by decide +kernel, by decide +kernel⟩
theorem ok_is_line (Γ : Gs K mg C)  {f : Addr} {fd : FuncData} (D : Def K mg "is_line" s_is_line ["shape"] f fd) : Ok P w K mg base T C "is_line" ["shape"] 1 M_is_line 1 := by
  exact ok_of D (fun_ok (m := m_is_line) D.F sc_is_line rfl (fun cdv A outer s H E hr => ⟨_, (sss_one (ss_ret (se_cmp (op_eqA hr.units) os_eq (se_callB call_len cs_len rfl Γ.b_len (by decide +kernel) (sa_cons (se_var 0) sa_nil)) se_int (nomark _))))⟩) (fun _ _ _ _ => Tells.same _))
abbrev s_reduced : Stmt := topS 9
abbrev N_reduced : List Str := ["top", "bottom", "divisor"]
theorem sc_reduced : FnScope ["top", "bottom", "divisor"] ["top", "bottom"] (defScope s_reduced) := ⟨rfl, rfl, rfl, by decide +kernel, rfl, by decide +kernel, by decide +kernel⟩
theorem ok_reduced (Γ : Gs K mg C)  {f : Addr} {fd : FuncData} (D : Def K mg "reduced" s_reduced ["top", "bottom"] f fd) : Ok P w K mg base T C "reduced" ["top", "bottom"] 2 M_reduced 1 := by
  exact ok_of D (fun_ok (m := m_reduced) D.F sc_reduced rfl (fun cdv A outer s H E hr => ⟨_, (sss_cons (ss_set 2 sc_reduced.nd (se_callM cr_gcd cs_int2 rfl Γ.m_gcd (sa_cons (se_var 0) (sa_cons (se_var 1) sa_nil)))) (sss_one (ss_ret (se_tup (sa_cons (se_bin op_fdivA os_fdiv (se_var 0) (se_var 2)) (sa_cons (se_bin op_fdivA os_fdiv (se_var 1) (se_var 2)) sa_nil))))))⟩) (fun _ _ _ _ => Tells.same _))
abbrev s_plus : Stmt := topS 10
abbrev N_plus : List Str := ["one", "other"]
theorem sc_plus : FnScope ["one", "other"] ["one", "other"] (defScope s_plus) := ⟨rfl, rfl, rfl, by decide +kernel, rfl, by decide +kernel, by decide +kernel⟩
theorem ok_plus (Γ : Gs K mg C) (o_reduced : Ok P w K mg base T C "reduced" ["top", "bottom"] 2 P_reduced 1) {f : Addr} {fd : FuncData} (D : Def K mg "plus" s_plus ["one", "other"] f fd) : Ok P w K mg base T C "plus" ["one", "other"] 2 M_plus 2 := by
  exact ok_of D (fun_ok (m := m_plus) D.F sc_plus rfl (fun cdv A outer s H E hr => ⟨_, (sss_one (ss_ret (se_call o_reduced (hr.mono (by decide)) pass_def (sa_cons (se_bin op_addA os_add (se_bin op_mulA os_mul (se_ix (se_var 0) se_int) (se_ix (se_var 1) se_int)) (se_bin op_mulA os_mul (se_ix (se_var 1) se_int) (se_ix (se_var 0) se_int))) (sa_cons (se_bin op_mulA os_mul (se_ix (se_var 0) se_int) (se_ix (se_var 1) se_int)) sa_nil)))))⟩) (fun _ _ _ _ => Tells.same _))
abbrev s_raised : Stmt := topS 45
abbrev N_raised : List Str := ["shape", "amount", "slope", "period", "rise", "places", "x", "at", "line"]
theorem sc_raised : FnScope ["shape", "amount", "slope", "period", "rise", "places", "x", "at", "line"] ["shape", "amount"] (defScope s_raised) := ⟨rfl, rfl, rfl, by decide +kernel, rfl, by decide +kernel, by decide +kernel⟩
theorem ok_raised (Γ : Gs K mg C) (o_is_line : Ok P w K mg base T C "is_line" ["shape"] 1 P_is_line 1) (o_plus : Ok P w K mg base T C "plus" ["one", "other"] 2 P_plus 2) {f : Addr} {fd : FuncData} (D : Def K mg "raised" s_raised ["shape", "amount"] f fd) : Ok P w K mg base T C "raised" ["shape", "amount"] 2 M_raised 3 := by
  exact ok_of D (fun_ok (m := m_raised) D.F sc_raised rfl (fun cdv A outer s H E hr => ⟨_, (sss_cons (ss_if (st_truth (se_call o_is_line (hr.mono (by decide)) pass_def (sa_cons (se_var 0) sa_nil))) (sss_one (ss_ret (se_tup (sa_cons (se_ix (se_var 0) se_int) (sa_cons (se_call o_plus (hr.mono (by decide)) pass_def (sa_cons (se_ix (se_var 0) se_int) (sa_cons (se_var 1) sa_nil))) sa_nil))))) sss_nil) (sss_cons (ss_asg (se_var 0) (sg_tup rfl (sgs_cons (sg_name 2 sc_raised.nd) (sgs_cons (sg_name 3 sc_raised.nd) (sgs_cons (sg_name 4 sc_raised.nd) (sgs_cons (sg_name 5 sc_raised.nd) sgs_nil)))))) (sss_one (ss_ret (se_tup (sa_cons (se_var 2) (sa_cons (se_var 3) (sa_cons (se_var 4) (sa_cons (se_callTy call_tuple_of cs_tuple rfl Γ.b_tuple (by decide +kernel) (sa_cons (se_lcT (own := [("x", 6), ("at", 7), ("line", 8)]) rfl sc_raised.nd (si_seq (se_var 5)) (blkOk_by (N := N_raised) (sc := defScope s_raised) (own := [("x", 6), ("at", 7), ("line", 8)]) (by decide +kernel)) (fun _ _ _ _ _ => ⟨_, (sgo_tup rfl (sgos_cons (sgo_name 6 (by decide) sc_raised.nd) (sgos_cons (sgo_name 7 (by decide) sc_raised.nd) (sgos_cons (sgo_name 8 (by decide) sc_raised.nd) sgos_nil))))⟩) (fun _ _ _ _ _ => ⟨_, sts_nil⟩) (fun _ _ _ _ _ => ⟨_, (se_tup (sa_cons (se_var 6) (sa_cons (se_call o_plus (hr.mono (by decide)) pass_blk (sa_cons (se_var 7) (sa_cons (se_var 1) sa_nil))) (sa_cons (se_call o_plus (hr.mono (by decide)) pass_blk (sa_cons (se_var 8) (sa_cons (se_var 1) sa_nil))) sa_nil))))⟩)) sa_nil)) sa_nil)))))))))⟩) (fun _ _ _ _ => Tells.same _))
abbrev s_times : Stmt := topS 12
abbrev N_times : List Str := ["one", "other"]
theorem sc_times : FnScope ["one", "other"] ["one", "other"] (defScope s_times) := ⟨rfl, rfl, rfl, by decide +kernel, rfl, by decide +kernel, by decide +kernel⟩
theorem ok_times (Γ : Gs K mg C) (o_reduced : Ok P w K mg base T C "reduced" ["top", "bottom"] 2 P_reduced 1) {f : Addr} {fd : FuncData} (D : Def K mg "times" s_times ["one", "other"] f fd) : Ok P w K mg base T C "times" ["one", "other"] 2 M_times 2 := by
  exact ok_of D (fun_ok (m := m_times) D.F sc_times rfl (fun cdv A outer s H E hr => ⟨_, (sss_one (ss_ret (se_call o_reduced (hr.mono (by decide)) pass_def (sa_cons (se_bin op_mulA os_mul (se_ix (se_var 0) se_int) (se_ix (se_var 1) se_int)) (sa_cons (se_bin op_mulA os_mul (se_ix (se_var 0) se_int) (se_ix (se_var 1) se_int)) sa_nil)))))⟩) (fun _ _ _ _ => Tells.same _))
abbrev s_multiplied : Stmt := topS 46
abbrev N_multiplied : List Str := ["shape", "factor", "slope", "places", "x", "at", "line"]
theorem sc_multiplied : FnScope ["shape", "factor", "slope", "places", "x", "at", "line"] ["shape", "factor"] (defScope s_multiplied) := ⟨rfl, rfl, rfl, by decide +kernel, rfl, by decide +kernel, by decide +kernel⟩
theorem ok_multiplied (Γ : Gs K mg C) (o_times : Ok P w K mg base T C "times" ["one", "other"] 2 P_times 2) (o_is_line : Ok P w K mg base T C "is_line" ["shape"] 1 P_is_line 1) {f : Addr} {fd : FuncData} (D : Def K mg "multiplied" s_multiplied ["shape", "factor"] f fd) : Ok P w K mg base T C "multiplied" ["shape", "factor"] 2 M_multiplied 3 := by
  exact ok_of D (fun_ok (m := m_multiplied) D.F sc_multiplied rfl (fun cdv A outer s H E hr => ⟨_, (sss_cons (ss_set 2 sc_multiplied.nd (se_call o_times (hr.mono (by decide)) pass_def (sa_cons (se_ix (se_var 0) se_int) (sa_cons (se_var 1) sa_nil)))) (sss_cons (ss_if (st_truth (se_call o_is_line (hr.mono (by decide)) pass_def (sa_cons (se_var 0) sa_nil))) (sss_one (ss_ret (se_tup (sa_cons (se_var 2) (sa_cons (se_call o_times (hr.mono (by decide)) pass_def (sa_cons (se_ix (se_var 0) se_int) (sa_cons (se_var 1) sa_nil))) sa_nil))))) sss_nil) (sss_cons (ss_setLcT 3 (own := [("x", 4), ("at", 5), ("line", 6)]) rfl sc_multiplied.nd (si_seq (se_ix (se_var 0) se_int)) (blkOk_by (N := N_multiplied) (sc := defScope s_multiplied) (own := [("x", 4), ("at", 5), ("line", 6)]) (by decide +kernel)) (fun _ _ _ _ _ => ⟨_, (sgo_tup rfl (sgos_cons (sgo_name 4 (by decide) sc_multiplied.nd) (sgos_cons (sgo_name 5 (by decide) sc_multiplied.nd) (sgos_cons (sgo_name 6 (by decide) sc_multiplied.nd) sgos_nil))))⟩) (fun _ _ _ _ _ => ⟨_, sts_nil⟩) (fun _ _ _ _ _ => ⟨_, (se_tup (sa_cons (se_var 4) (sa_cons (se_call o_times (hr.mono (by decide)) pass_blk (sa_cons (se_var 5) (sa_cons (se_var 1) sa_nil))) (sa_cons (se_call o_times (hr.mono (by decide)) pass_blk (sa_cons (se_var 6) (sa_cons (se_var 1) sa_nil))) sa_nil))))⟩)) (sss_one (ss_ret (se_tup (sa_cons (se_var 2) (sa_cons (se_ix (se_var 0) se_int) (sa_cons (se_call o_times (hr.mono (by decide)) pass_def (sa_cons (se_ix (se_var 0) se_int) (sa_cons (se_var 1) sa_nil))) (sa_cons (se_callTy call_tuple_of cs_tuple rfl Γ.b_tuple (by decide +kernel) (sa_cons (se_var 3) sa_nil)) sa_nil))))))))))⟩) (fun _ _ _ _ => Tells.same _))
abbrev s_size : Stmt := topS 14
abbrev N_size : List Str := ["fraction"]
theorem sc_size : FnScope ["fraction"] ["fraction"] (defScope s_size) := ⟨rfl, rfl, rfl, by decide +kernel, rfl, by decide +kernel, by decide +kernel⟩
theorem ok_size (Γ : Gs K mg C)  {f : Addr} {fd : FuncData} (D : Def K mg "size" s_size ["fraction"] f fd) : Ok P w K mg base T C "size" ["fraction"] 1 M_size 1 := by
  exact ok_of D (fun_ok (m := m_size) D.F sc_size rfl (fun cdv A outer s H E hr => ⟨_, (sss_one (ss_ret (se_tup (sa_cons (se_callB call_abs cs_abs rfl Γ.b_abs (by decide +kernel) (sa_cons (se_ix (se_var 0) se_int) sa_nil)) (sa_cons (se_ix (se_var 0) se_int) sa_nil)))))⟩) (fun _ _ _ _ => Tells.same _))
abbrev s_inverse : Stmt := topS 13
abbrev N_inverse : List Str := ["fraction", "top", "bottom"]
theorem sc_inverse : FnScope ["fraction", "top", "bottom"] ["fraction"] (defScope s_inverse) := ⟨rfl, rfl, rfl, by decide +kernel, rfl, by decide +kernel, by decide +kernel⟩
theorem ok_inverse (Γ : Gs K mg C)  {f : Addr} {fd : FuncData} (D : Def K mg "inverse" s_inverse ["fraction"] f fd) : Ok P w K mg base T C "inverse" ["fraction"] 1 M_inverse 1 := by
  exact ok_of D (fun_ok (m := m_inverse) D.F sc_inverse rfl (fun cdv A outer s H E hr => ⟨_, (sss_cons (ss_asg (se_var 0) (sg_tup rfl (sgs_cons (sg_name 1 sc_inverse.nd) (sgs_cons (sg_name 2 sc_inverse.nd) sgs_nil)))) (sss_one (ss_ret (se_if (st_cmp op_gt os_cmp (se_var 1) se_int (nomark _)) (se_tup (sa_cons (se_var 2) (sa_cons (se_var 1) sa_nil))) (se_tup (sa_cons (se_un un_neg us_neg (se_var 2)) (sa_cons (se_un un_neg us_neg (se_var 1)) sa_nil)))))))⟩) (fun _ _ _ _ => Tells.same _))
abbrev s_span_in_units : Stmt := topS 50
abbrev N_span_in_units : List Str := ["step"]
theorem sc_span_in_units : FnScope ["step"] ["step"] (defScope s_span_in_units) := ⟨rfl, rfl, rfl, by decide +kernel, rfl, by decide +kernel, by decide +kernel⟩
theorem ok_span_in_units (Γ : Gs K mg C)  {f : Addr} {fd : FuncData} (D : Def K mg "span_in_units" s_span_in_units ["step"] f fd) : Ok P w K mg base T C "span_in_units" ["step"] 1 M_span_in_units 1 := by
  exact ok_of D (fun_ok (m := m_span_in_units) D.F sc_span_in_units rfl (fun cdv A outer s H E hr => ⟨_, (sss_cons (ss_if (SW.pt (sw_and (st_cmp (op_eqA hr.units) os_eq (se_ix (se_var 0) se_int) se_str (nomark _)) (sw_and1 (st_cmp op_in_seq os_mem (se_ix (se_var 0) se_int) (se_tup (sa_cons se_str (sa_cons se_str sa_nil))) (by rfl))))) (sss_one (ss_ret se_int)) sss_nil) (sss_one (ss_ret se_int)))⟩) (fun _ _ _ _ => Tells.same _))
abbrev s_as_wave : Stmt := topS 51
abbrev N_as_wave : List Str := ["shape", "span", "slope", "line"]
theorem sc_as_wave : FnScope ["shape", "span", "slope", "line"] ["shape", "span"] (defScope s_as_wave) := ⟨rfl, rfl, rfl, by decide +kernel, rfl, by decide +kernel, by decide +kernel⟩
theorem ok_as_wave (Γ : Gs K mg C) (o_is_line : Ok P w K mg base T C "is_line" ["shape"] 1 P_is_line 1) (o_times : Ok P w K mg base T C "times" ["one", "other"] 2 P_times 2) {f : Addr} {fd : FuncData} (D : Def K mg "as_wave" s_as_wave ["shape", "span"] f fd) : Ok P w K mg base T C "as_wave" ["shape", "span"] 2 M_as_wave 3 := by
  obtain ⟨a_NOTHING, h_NOTHING, _⟩ := id Γ.c_NOTHING
  exact ok_of D (fun_ok (m := m_as_wave) D.F sc_as_wave rfl (fun cdv A outer s H E hr => ⟨_, (sss_cons (ss_if (st_not (st_truth (se_call o_is_line (hr.mono (by decide)) pass_def (sa_cons (se_var 0) sa_nil)))) (sss_one (ss_ret (se_var 0))) sss_nil) (sss_cons (ss_asg (se_var 0) (sg_tup rfl (sgs_cons (sg_name 2 sc_as_wave.nd) (sgs_cons (sg_name 3 sc_as_wave.nd) sgs_nil)))) (sss_one (ss_ret (se_tup (sa_cons (se_var 2) (sa_cons (se_var 1) (sa_cons (se_call o_times (hr.mono (by decide)) pass_def (sa_cons (se_var 2) (sa_cons (se_var 1) sa_nil))) (sa_cons (se_tup (sa_cons (se_tup (sa_cons (se_gtup Γ.c_NOTHING h_NOTHING) (sa_cons (se_var 3) (sa_cons (se_var 3) sa_nil)))) sa_nil)) sa_nil)))))))))⟩) (fun _ _ _ _ => Tells.same _))
abbrev s_grid_bottom : Stmt := topS 52
abbrev N_grid_bottom : List Str := ["wave", "unit", "_", "period", "rise", "places", "bottom", "x", "at", "line"]
theorem sc_grid_bottom : FnScope ["wave", "unit", "_", "period", "rise", "places", "bottom", "x", "at", "line"] ["wave", "unit"] (defScope s_grid_bottom) := ⟨rfl, rfl, rfl, by decide +kernel, rfl, by decide +kernel, by decide +kernel⟩
theorem ok_grid_bottom (Γ : Gs K mg C)  {f : Addr} {fd : FuncData} (D : Def K mg "grid_bottom" s_grid_bottom ["wave", "unit"] f fd) : Ok P w K mg base T C "grid_bottom" ["wave", "unit"] 2 M_grid_bottom 1 := by
  exact ok_of D (fun_ok (m := m_grid_bottom) D.F sc_grid_bottom rfl (fun cdv A outer s H E hr => ⟨_, (sss_cons (ss_asg (se_var 0) (sg_tup rfl (sgs_cons (sg_name 2 sc_grid_bottom.nd) (sgs_cons (sg_name 3 sc_grid_bottom.nd) (sgs_cons (sg_name 4 sc_grid_bottom.nd) (sgs_cons (sg_name 5 sc_grid_bottom.nd) sgs_nil)))))) (sss_cons (ss_set 6 sc_grid_bottom.nd (se_callM cr_lcm cs_lcm rfl Γ.m_lcm (sa_cons (se_ix (se_var 3) se_int) (sa_cons (se_ix (se_var 4) se_int) (sa_cons (se_bin op_mulA os_mul se_int (se_ix (se_var 1) se_int)) sa_nil))))) (sss_cons (ss_forT own_def rfl (si_seq (se_var 5)) (sg_tup rfl (sgs_cons (sg_name 7 sc_grid_bottom.nd) (sgs_cons (sg_name 8 sc_grid_bottom.nd) (sgs_cons (sg_name 9 sc_grid_bottom.nd) sgs_nil)))) (sss_one (ss_set 6 sc_grid_bottom.nd (se_callM cr_lcm cs_lcm rfl Γ.m_lcm (sa_cons (se_var 6) (sa_cons (se_ix (se_var 7) se_int) (sa_cons (se_ix (se_var 8) se_int) (sa_cons (se_ix (se_var 9) se_int) sa_nil)))))))) (sss_one (ss_ret (se_bin op_mulA os_mul se_int (se_var 6)))))))⟩) (fun _ _ _ _ => Tells.same _))
abbrev s_on_grid : Stmt := topS 53
abbrev N_on_grid : List Str := ["fraction", "bottom"]
theorem sc_on_grid : FnScope ["fraction", "bottom"] ["fraction", "bottom"] (defScope s_on_grid) := ⟨rfl, rfl, rfl, by decide +kernel, rfl, by decide +kernel, by decide +kernel⟩
theorem ok_on_grid (Γ : Gs K mg C)  {f : Addr} {fd : FuncData} (D : Def K mg "on_grid" s_on_grid ["fraction", "bottom"] f fd) : Ok P w K mg base T C "on_grid" ["fraction", "bottom"] 2 M_on_grid 1 := by
  exact ok_of D (fun_ok (m := m_on_grid) D.F sc_on_grid rfl (fun cdv A outer s H E hr => ⟨_, (sss_one (ss_ret (se_bin op_mulA os_mul (se_ix (se_var 0) se_int) (se_bin op_fdivA os_fdiv (se_var 1) (se_ix (se_var 0) se_int)))))⟩) (fun _ _ _ _ => Tells.same _))
abbrev s_minus : Stmt := topS 11
abbrev N_minus : List Str := ["one", "other"]
theorem sc_minus : FnScope ["one", "other"] ["one", "other"] (defScope s_minus) := ⟨rfl, rfl, rfl, by decide +kernel, rfl, by decide +kernel, by decide +kernel⟩
theorem ok_minus (Γ : Gs K mg C) (o_plus : Ok P w K mg base T C "plus" ["one", "other"] 2 P_plus 2) {f : Addr} {fd : FuncData} (D : Def K mg "minus" s_minus ["one", "other"] f fd) : Ok P w K mg base T C "minus" ["one", "other"] 2 M_minus 3 := by
  exact ok_of D (fun_ok (m := m_minus) D.F sc_minus rfl (fun cdv A outer s H E hr => ⟨_, (sss_one (ss_ret (se_call o_plus (hr.mono (by decide)) pass_def (sa_cons (se_var 0) (sa_cons (se_tup (sa_cons (se_un un_neg us_neg (se_ix (se_var 1) se_int)) (sa_cons (se_ix (se_var 1) se_int) sa_nil))) sa_nil)))))⟩) (fun _ _ _ _ => Tells.same _))
abbrev s_line_ahead : Stmt := topS 43
abbrev N_line_ahead : List Str := ["wave", "slope", "period", "rise", "places"]
theorem sc_line_ahead : FnScope ["wave", "slope", "period", "rise", "places"] ["wave"] (defScope s_line_ahead) := ⟨rfl, rfl, rfl, by decide +kernel, rfl, by decide +kernel, by decide +kernel⟩
theorem ok_line_ahead (Γ : Gs K mg C) (o_plus : Ok P w K mg base T C "plus" ["one", "other"] 2 P_plus 2) (o_minus : Ok P w K mg base T C "minus" ["one", "other"] 2 P_minus 3) (o_times : Ok P w K mg base T C "times" ["one", "other"] 2 P_times 2) {f : Addr} {fd : FuncData} (D : Def K mg "line_ahead" s_line_ahead ["wave"] f fd) : Ok P w K mg base T C "line_ahead" ["wave"] 1 M_line_ahead 4 := by
  exact ok_of D (fun_ok (m := m_line_ahead) D.F sc_line_ahead rfl (fun cdv A outer s H E hr => ⟨_, (sss_cons (ss_asg (se_var 0) (sg_tup rfl (sgs_cons (sg_name 1 sc_line_ahead.nd) (sgs_cons (sg_name 2 sc_line_ahead.nd) (sgs_cons (sg_name 3 sc_line_ahead.nd) (sgs_cons (sg_name 4 sc_line_ahead.nd) sgs_nil)))))) (sss_one (ss_ret (se_call o_plus (hr.mono (by decide)) pass_def (sa_cons (se_ix (se_ix (se_var 4) (se_un un_neg us_neg se_int)) se_int) (sa_cons (se_call o_minus (hr.mono (by decide)) pass_def (sa_cons (se_call o_times (hr.mono (by decide)) pass_def (sa_cons (se_var 1) (sa_cons (se_var 2) sa_nil))) (sa_cons (se_var 3) sa_nil))) sa_nil))))))⟩) (fun _ _ _ _ => Tells.same _))
abbrev s_marks_of : Stmt := topS 54
abbrev N_marks_of : List Str := ["wave", "bottom", "marks", "sign", "last", "place", "at", "line", "x", "behind"]
theorem sc_marks_of : FnScope ["wave", "bottom", "marks", "sign", "last", "place", "at", "line", "x", "behind"] ["wave", "bottom"] (defScope s_marks_of) := ⟨rfl, rfl, rfl, by decide +kernel, rfl, by decide +kernel, by decide +kernel⟩
theorem ok_marks_of (Γ : Gs K mg C) (o_on_grid : Ok P w K mg base T C "on_grid" ["fraction", "bottom"] 2 P_on_grid 1) (o_line_ahead : Ok P w K mg base T C "line_ahead" ["wave"] 1 P_line_ahead 4) {f : Addr} {fd : FuncData} (D : Def K mg "marks_of" s_marks_of ["wave", "bottom"] f fd) : Ok P w K mg base T C "marks_of" ["wave", "bottom"] 2 M_marks_of 5 := by
  exact ok_of D (fun_ok (m := m_marks_of) D.F sc_marks_of rfl (fun cdv A outer s H E hr => ⟨_, (sss_cons (ss_set 2 sc_marks_of.nd (se_lst sa_nil)) (sss_cons (ss_set 3 sc_marks_of.nd (se_ix (se_ix (se_var 0) se_int) se_int)) (sss_cons (ss_set 4 sc_marks_of.nd (se_call o_on_grid (hr.mono (by decide)) pass_def (sa_cons (se_call o_line_ahead (hr.mono (by decide)) pass_def (sa_cons (se_var 0) sa_nil)) (sa_cons (se_var 1) sa_nil)))) (sss_cons (ss_forT own_def rfl (si_seq (se_ix (se_var 0) se_int)) (sg_tup rfl (sgs_cons (sg_name 5 sc_marks_of.nd) (sgs_cons (sg_name 6 sc_marks_of.nd) (sgs_cons (sg_name 7 sc_marks_of.nd) sgs_nil)))) (sss_cons (ss_set 8 sc_marks_of.nd (se_call o_on_grid (hr.mono (by decide)) pass_def (sa_cons (se_var 5) (sa_cons (se_var 1) sa_nil)))) (sss_cons (ss_set 9 sc_marks_of.nd (se_call o_on_grid (hr.mono (by decide)) pass_def (sa_cons (se_var 7) (sa_cons (se_var 1) sa_nil)))) (sss_cons (ss_expr (se_meth PySem.F.plainAttrs_list PySem.F.slot_list_append PySem.F.type_list_append mt_append ms_append (se_var 2) (sa_cons (se_tup (sa_cons (se_var 8) (sa_cons (se_bin op_addA os_add (se_bin op_mulA os_mul (se_var 3) (se_var 8)) (se_var 4)) (sa_cons (se_call o_on_grid (hr.mono (by decide)) pass_def (sa_cons (se_var 6) (sa_cons (se_var 1) sa_nil))) (sa_cons (se_bin op_addA os_add (se_bin op_mulA os_mul (se_var 3) (se_var 8)) (se_var 9)) sa_nil))))) sa_nil))) (sss_one (ss_set 4 sc_marks_of.nd (se_var 9))))))) (sss_one (ss_ret (se_var 2)))))))⟩) (fun _ _ _ _ => Tells.same _))
abbrev s_crossings : Stmt := topS 55
abbrev N_crossings : List Str := ["marks", "sign", "period", "step", "width", "middle", "found", "ends", "mark", "end", "first", "far", "x", "_", "behind", "value"]
theorem sc_crossings : FnScope ["marks", "sign", "period", "step", "width", "middle", "found", "ends", "mark", "end", "first", "far", "x", "_", "behind", "value"] ["marks", "sign", "period", "step", "width"] (defScope s_crossings) := ⟨rfl, rfl, rfl, by decide +kernel, rfl, by decide +kernel, by decide +kernel⟩
theorem ok_crossings (Γ : Gs K mg C)  {f : Addr} {fd : FuncData} (D : Def K mg "crossings" s_crossings ["marks", "sign", "period", "step", "width"] f fd) : Ok P w K mg base T C "crossings" ["marks", "sign", "period", "step", "width"] 5 M_crossings 1 := by
  exact ok_of D (fun_ok (m := m_crossings) D.F sc_crossings rfl (fun cdv A outer s H E hr => ⟨_, (sss_cons (ss_if (st_cmp (op_eqA hr.units) os_eq (se_var 1) se_int (nomark _)) (sss_one (ss_ret (se_lst sa_nil))) sss_nil) (sss_cons (ss_set 5 sc_crossings.nd (se_if (st_cmp (op_eqA hr.units) os_eq (se_ix (se_var 3) se_int) se_str (nomark _)) (se_bin op_fdivA os_fdiv (se_var 4) se_int) se_int)) (sss_cons (ss_set 6 sc_crossings.nd (se_lst sa_nil)) (sss_cons (ss_set 7 sc_crossings.nd (se_bin op_addA os_add (se_lc (own := [("mark", 8)]) rfl sc_crossings.nd (si_seq (se_slice (se_var 0) (so_some se_int) so_none)) (blkOk_by (N := N_crossings) (sc := defScope s_crossings) (own := [("mark", 8)]) (by decide +kernel)) (fun _ _ _ _ _ => (sgo_name 8 (by decide) sc_crossings.nd)) (fun _ _ _ _ _ => ⟨_, sts_nil⟩) (fun _ _ _ _ _ => ⟨_, (se_ix (se_var 8) se_int)⟩)) (se_lst (sa_cons (se_bin op_addA os_add (se_ix (se_ix (se_var 0) se_int) se_int) (se_var 2)) sa_nil)))) (sss_cons (ss_forT own_def rfl (si_zip rfl Γ.b_zip (sa_cons (se_var 0) (sa_cons (se_var 7) sa_nil))) (sg_tup rfl (sgs_cons (sg_tup rfl (sgs_cons (sg_name 12 sc_crossings.nd) (sgs_cons (sg_name 13 sc_crossings.nd) (sgs_cons (sg_name 13 sc_crossings.nd) (sgs_cons (sg_name 14 sc_crossings.nd) sgs_nil))))) (sgs_cons (sg_name 9 sc_crossings.nd) sgs_nil))) (sss_cons (ss_set 10 sc_crossings.nd (se_bin op_sub os_sub (se_var 4) (se_bin op_modN os_mod (se_bin op_mulA os_mul (se_var 1) (se_bin op_sub os_sub (se_var 14) (se_var 5))) (se_var 4)))) (sss_one (ss_forT own_def rfl (si_rng3 rfl Γ.b_range (sa_cons (se_var 10) (sa_cons (se_bin op_sub os_sub (se_var 9) (se_var 12)) (sa_cons (se_var 4) sa_nil)))) (sg_name 11 sc_crossings.nd) (sss_cons (ss_set 15 sc_crossings.nd (se_bin op_addA os_add (se_var 14) (se_bin op_mulA os_mul (se_var 1) (se_var 11)))) (sss_one (ss_expr (se_meth PySem.F.plainAttrs_list PySem.F.slot_list_append PySem.F.type_list_append mt_append ms_append (se_var 6) (sa_cons (se_tup (sa_cons (se_bin op_modN os_mod (se_bin op_addA os_add (se_var 12) (se_var 11)) (se_var 2)) (sa_cons (se_var 15) (sa_cons (se_var 15) (sa_cons (se_var 15) sa_nil))))) sa_nil))))))))) (sss_one (ss_ret (se_var 6))))))))⟩) (fun _ _ _ _ => Tells.same _))
abbrev s_tied_count : Stmt := topS 27
abbrev N_tied_count : List Str := ["low", "tie", "is_even"]
theorem sc_tied_count : FnScope ["low", "tie", "is_even"] ["low", "tie"] (defScope s_tied_count) := ⟨rfl, rfl, rfl, by decide +kernel, rfl, by decide +kernel, by decide +kernel⟩
theorem ok_tied_count (Γ : Gs K mg C)  {f : Addr} {fd : FuncData} (D : Def K mg "tied_count" s_tied_count ["low", "tie"] f fd) : Ok P w K mg base T C "tied_count" ["low", "tie"] 2 M_tied_count 1 := by
  exact ok_of D (fun_ok (m := m_tied_count) D.F sc_tied_count rfl (fun cdv A outer s H E hr => ⟨_, (sss_cons (ss_if (st_cmp (op_eqA hr.units) os_eq (se_var 1) se_str (nomark _)) (sss_one (ss_ret (se_var 0))) sss_nil) (sss_cons (ss_if (st_cmp (op_eqA hr.units) os_eq (se_var 1) se_str (nomark _)) (sss_one (ss_ret (se_bin op_addA os_add (se_var 0) se_int))) sss_nil) (sss_cons (ss_set 2 sc_tied_count.nd (se_cmp (op_eqA hr.units) os_eq (se_bin op_mulA os_mul (se_bin op_fdivA os_fdiv (se_var 0) se_int) se_int) (se_var 0) (nomark _))) (sss_one (ss_ret (se_if (st_cmp (op_eqA hr.units) os_eq (se_var 2) (se_cmp (op_eqA hr.units) os_eq (se_var 1) se_str (nomark _)) (nomark _)) (se_var 0) (se_bin op_addA os_add (se_var 0) se_int)))))))⟩) (fun _ _ _ _ => Tells.same _))
abbrev s_nearest_count : Stmt := topS 26
abbrev N_nearest_count : List Str := ["low", "beyond", "tie"]
theorem sc_nearest_count : FnScope ["low", "beyond", "tie"] ["low", "beyond", "tie"] (defScope s_nearest_count) := ⟨rfl, rfl, rfl, by decide +kernel, rfl, by decide +kernel, by decide +kernel⟩
theorem ok_nearest_count (Γ : Gs K mg C) (o_tied_count : Ok P w K mg base T C "tied_count" ["low", "tie"] 2 P_tied_count 1) {f : Addr} {fd : FuncData} (D : Def K mg "nearest_count" s_nearest_count ["low", "beyond", "tie"] f fd) : Ok P w K mg base T C "nearest_count" ["low", "beyond", "tie"] 3 M_nearest_count 2 := by
  exact ok_of D (fun_ok (m := m_nearest_count) D.F sc_nearest_count rfl (fun cdv A outer s H E hr => ⟨_, (sss_cons (ss_if (st_cmp (op_eqA hr.units) os_eq (se_var 1) se_int (nomark _)) (sss_one (ss_ret (se_call o_tied_count (hr.mono (by decide)) pass_def (sa_cons (se_var 0) (sa_cons (se_var 2) sa_nil))))) sss_nil) (sss_one (ss_ret (se_if (st_cmp op_lt os_cmp (se_var 1) se_int (nomark _)) (se_var 0) (se_bin op_addA os_add (se_var 0) se_int)))))⟩) (fun _ _ _ _ => Tells.same _))
abbrev s_whole_count : Stmt := topS 25
abbrev N_whole_count : List Str := ["step", "top", "bottom", "low", "left"]
theorem sc_whole_count : FnScope ["step", "top", "bottom", "low", "left"] ["step", "top", "bottom"] (defScope s_whole_count) := ⟨rfl, rfl, rfl, by decide +kernel, rfl, by decide +kernel, by decide +kernel⟩
theorem ok_whole_count (Γ : Gs K mg C) (o_nearest_count : Ok P w K mg base T C "nearest_count" ["low", "beyond", "tie"] 3 P_nearest_count 2) {f : Addr} {fd : FuncData} (D : Def K mg "whole_count" s_whole_count ["step", "top", "bottom"] f fd) : Ok P w K mg base T C "whole_count" ["step", "top", "bottom"] 3 M_whole_count 3 := by
  exact ok_of D (fun_ok (m := m_whole_count) D.F sc_whole_count rfl (fun cdv A outer s H E hr => ⟨_, (sss_cons (ss_set 3 sc_whole_count.nd (se_bin op_fdivA os_fdiv (se_var 1) (se_var 2))) (sss_cons (ss_set 4 sc_whole_count.nd (se_bin op_sub os_sub (se_var 1) (se_bin op_mulA os_mul (se_var 3) (se_var 2)))) (sss_cons (ss_if (st_cmp (op_eqA hr.units) os_eq (se_ix (se_var 0) se_int) se_str (nomark _)) (sss_one (ss_ret (se_if (st_cmp (op_eqA hr.units) os_eq (se_var 4) se_int (nomark _)) (se_var 3) (se_bin op_addA os_add (se_var 3) se_int)))) sss_nil) (sss_cons (ss_if (st_cmp (op_eqA hr.units) os_eq (se_ix (se_var 0) se_int) se_str (nomark _)) (sss_one (ss_ret (se_call o_nearest_count (hr.mono (by decide)) pass_def (sa_cons (se_var 3) (sa_cons (se_bin op_sub os_sub (se_bin op_mulA os_mul se_int (se_var 4)) (se_var 2)) (sa_cons (se_ix (se_var 0) se_int) sa_nil)))))) sss_nil) (sss_one (ss_ret (se_var 3)))))))⟩) (fun _ _ _ _ => Tells.same _))
abbrev s_stepped_value : Stmt := topS 58
abbrev N_stepped_value : List Str := ["step", "width", "value", "beside", "multiple"]
theorem sc_stepped_value : FnScope ["step", "width", "value", "beside", "multiple"] ["step", "width", "value", "beside"] (defScope s_stepped_value) := ⟨rfl, rfl, rfl, by decide +kernel, rfl, by decide +kernel, by decide +kernel⟩
theorem ok_stepped_value (Γ : Gs K mg C) (o_whole_count : Ok P w K mg base T C "whole_count" ["step", "top", "bottom"] 3 P_whole_count 3) {f : Addr} {fd : FuncData} (D : Def K mg "stepped_value" s_stepped_value ["step", "width", "value", "beside"] f fd) : Ok P w K mg base T C "stepped_value" ["step", "width", "value", "beside"] 4 M_stepped_value 4 := by
  exact ok_of D (fun_ok (m := m_stepped_value) D.F sc_stepped_value rfl (fun cdv A outer s H E hr => ⟨_, (sss_cons (ss_set 4 sc_stepped_value.nd (se_bin op_mulA os_mul (se_call o_whole_count (hr.mono (by decide)) pass_def (sa_cons (se_var 0) (sa_cons (se_var 3) (sa_cons (se_var 1) sa_nil)))) (se_var 1))) (sss_one (ss_ret (se_if (st_cmp (op_eqA hr.units) os_eq (se_ix (se_var 0) se_int) se_str (nomark _)) (se_bin op_sub os_sub (se_var 2) (se_var 4)) (se_var 4)))))⟩) (fun _ _ _ _ => Tells.same _))
abbrev s_stepped_marks : Stmt := topS 57
abbrev N_stepped_marks : List Str := ["marks", "sign", "step", "width", "found", "x", "ahead", "at", "behind"]
theorem sc_stepped_marks : FnScope ["marks", "sign", "step", "width", "found", "x", "ahead", "at", "behind"] ["marks", "sign", "step", "width"] (defScope s_stepped_marks) := ⟨rfl, rfl, rfl, by decide +kernel, rfl, by decide +kernel, by decide +kernel⟩
theorem ok_stepped_marks (Γ : Gs K mg C) (o_stepped_value : Ok P w K mg base T C "stepped_value" ["step", "width", "value", "beside"] 4 P_stepped_value 4) {f : Addr} {fd : FuncData} (D : Def K mg "stepped_marks" s_stepped_marks ["marks", "sign", "step", "width"] f fd) : Ok P w K mg base T C "stepped_marks" ["marks", "sign", "step", "width"] 4 M_stepped_marks 5 := by
  exact ok_of D (fun_ok (m := m_stepped_marks) D.F sc_stepped_marks rfl (fun cdv A outer s H E hr => ⟨_, (sss_cons (ss_set 4 sc_stepped_marks.nd (se_lst sa_nil)) (sss_cons (ss_forT own_def rfl (si_seq (se_var 0)) (sg_tup rfl (sgs_cons (sg_name 5 sc_stepped_marks.nd) (sgs_cons (sg_name 6 sc_stepped_marks.nd) (sgs_cons (sg_name 7 sc_stepped_marks.nd) (sgs_cons (sg_name 8 sc_stepped_marks.nd) sgs_nil))))) (sss_cons (ss_set 6 sc_stepped_marks.nd (se_call o_stepped_value (hr.mono (by decide)) pass_def (sa_cons (se_var 2) (sa_cons (se_var 3) (sa_cons (se_var 6) (sa_cons (se_bin op_sub os_sub (se_var 6) (se_var 1)) sa_nil)))))) (sss_cons (ss_set 8 sc_stepped_marks.nd (se_call o_stepped_value (hr.mono (by decide)) pass_def (sa_cons (se_var 2) (sa_cons (se_var 3) (sa_cons (se_var 8) (sa_cons (se_bin op_addA os_add (se_var 8) (se_var 1)) sa_nil)))))) (sss_one (ss_expr (se_meth PySem.F.plainAttrs_list PySem.F.slot_list_append PySem.F.type_list_append mt_append ms_append (se_var 4) (sa_cons (se_tup (sa_cons (se_var 5) (sa_cons (se_var 6) (sa_cons (se_call o_stepped_value (hr.mono (by decide)) pass_def (sa_cons (se_var 2) (sa_cons (se_var 3) (sa_cons (se_var 7) (sa_cons (se_var 7) sa_nil))))) (sa_cons (se_var 8) sa_nil))))) sa_nil))))))) (sss_one (ss_ret (se_var 4)))))⟩) (fun _ _ _ _ => Tells.same _))
abbrev s_repeated : Stmt := topS 56
abbrev N_repeated : List Str := ["marks", "period", "rise", "copies", "found", "at", "right", "up", "x", "ahead", "told", "behind"]
theorem sc_repeated : FnScope ["marks", "period", "rise", "copies", "found", "at", "right", "up", "x", "ahead", "told", "behind"] ["marks", "period", "rise", "copies"] (defScope s_repeated) := ⟨rfl, rfl, rfl, by decide +kernel, rfl, by decide +kernel, by decide +kernel⟩
theorem ok_repeated (Γ : Gs K mg C)  {f : Addr} {fd : FuncData} (D : Def K mg "repeated" s_repeated ["marks", "period", "rise", "copies"] f fd) : Ok P w K mg base T C "repeated" ["marks", "period", "rise", "copies"] 4 M_repeated 1 := by
  exact ok_of D (fun_ok (m := m_repeated) D.F sc_repeated rfl (fun cdv A outer s H E hr => ⟨_, (sss_cons (ss_set 4 sc_repeated.nd (se_lst sa_nil)) (sss_cons (ss_forT own_def rfl (si_rng1 rfl Γ.b_range (sa_cons (se_var 3) sa_nil)) (sg_name 5 sc_repeated.nd) (sss_cons (ss_set 6 sc_repeated.nd (se_bin op_mulA os_mul (se_var 5) (se_var 1))) (sss_cons (ss_set 7 sc_repeated.nd (se_bin op_mulA os_mul (se_var 5) (se_var 2))) (sss_one (ss_expr (se_meth PySem.F.plainAttrs_list PySem.F.slot_list_extend PySem.F.type_list_extend mt_extend ms_extend (se_var 4) (sa_cons (se_lcT (own := [("x", 8), ("ahead", 9), ("told", 10), ("behind", 11)]) rfl sc_repeated.nd (si_seq (se_var 0)) (blkOk_by (N := N_repeated) (sc := defScope s_repeated) (own := [("x", 8), ("ahead", 9), ("told", 10), ("behind", 11)]) (by decide +kernel)) (fun _ _ _ _ _ => ⟨_, (sgo_tup rfl (sgos_cons (sgo_name 8 (by decide) sc_repeated.nd) (sgos_cons (sgo_name 9 (by decide) sc_repeated.nd) (sgos_cons (sgo_name 10 (by decide) sc_repeated.nd) (sgos_cons (sgo_name 11 (by decide) sc_repeated.nd) sgos_nil)))))⟩) (fun _ _ _ _ _ => ⟨_, sts_nil⟩) (fun _ _ _ _ _ => ⟨_, (se_tup (sa_cons (se_bin op_addA os_add (se_var 8) (se_var 6)) (sa_cons (se_bin op_addA os_add (se_var 9) (se_var 7)) (sa_cons (se_bin op_addA os_add (se_var 10) (se_var 7)) (sa_cons (se_bin op_addA os_add (se_var 11) (se_var 7)) sa_nil)))))⟩)) sa_nil))))))) (sss_one (ss_ret (se_var 4)))))⟩) (fun _ _ _ _ => Tells.same _))
abbrev s_is_repeated : Stmt := topS 61
abbrev N_is_repeated : List Str := ["places", "many", "period", "rise", "parts", "right", "up", "later", "x", "_", "at", "behind"]
theorem sc_is_repeated : FnScope ["places", "many", "period", "rise", "parts", "right", "up", "later", "x", "_", "at", "behind"] ["places", "many", "period", "rise"] (defScope s_is_repeated) := ⟨rfl, rfl, rfl, by decide +kernel, rfl, by decide +kernel, by decide +kernel⟩
theorem ok_is_repeated (Γ : Gs K mg C)  {f : Addr} {fd : FuncData} (D : Def K mg "is_repeated" s_is_repeated ["places", "many", "period", "rise"] f fd) : Ok P w K mg base T C "is_repeated" ["places", "many", "period", "rise"] 4 M_is_repeated 1 := by
  exact ok_of D (fun_ok (m := m_is_repeated) D.F sc_is_repeated rfl (fun cdv A outer s H E hr => ⟨_, (sss_cons (ss_set 4 sc_is_repeated.nd (se_bin op_fdivA os_fdiv (se_callB call_len cs_len rfl Γ.b_len (by decide +kernel) (sa_cons (se_var 0) sa_nil)) (se_var 1))) (sss_cons (ss_if (SW.pt (sw_or (st_cmp (op_neA hr.units) os_ne (se_bin op_modN os_mod (se_var 2) (se_var 4)) se_int (nomark _)) (sw_or1 (st_cmp (op_neA hr.units) os_ne (se_bin op_modN os_mod (se_var 3) (se_var 4)) se_int (nomark _))))) (sss_one (ss_ret se_bl)) sss_nil) (sss_cons (ss_set 5 sc_is_repeated.nd (se_bin op_fdivA os_fdiv (se_var 2) (se_var 4))) (sss_cons (ss_set 6 sc_is_repeated.nd (se_bin op_fdivA os_fdiv (se_var 3) (se_var 4))) (sss_cons (ss_forT own_def rfl (si_zip rfl Γ.b_zip (sa_cons (se_var 0) (sa_cons (se_slice (se_var 0) (so_some (se_var 1)) so_none) sa_nil))) (sg_tup rfl (sgs_cons (sg_tup rfl (sgs_cons (sg_name 8 sc_is_repeated.nd) (sgs_cons (sg_name 9 sc_is_repeated.nd) (sgs_cons (sg_name 10 sc_is_repeated.nd) (sgs_cons (sg_name 11 sc_is_repeated.nd) sgs_nil))))) (sgs_cons (sg_name 7 sc_is_repeated.nd) sgs_nil))) (sss_one (ss_if (st_cmp (op_neA hr.units) os_ne (se_tup (sa_cons (se_bin op_addA os_add (se_var 8) (se_var 5)) (sa_cons (se_bin op_addA os_add (se_var 10) (se_var 6)) (sa_cons (se_bin op_addA os_add (se_var 11) (se_var 6)) sa_nil)))) (se_tup (sa_cons (se_ix (se_var 7) se_int) (sa_cons (se_ix (se_var 7) se_int) (sa_cons (se_ix (se_var 7) se_int) sa_nil)))) (nomark _)) (sss_one (ss_ret se_bl)) sss_nil))) (sss_one (ss_ret se_bl)))))))⟩) (fun _ _ _ _ => Tells.same _))
abbrev s_least_many : Stmt := topS 60
abbrev N_least_many : List Str := ["places", "period", "rise", "many"]
theorem sc_least_many : FnScope ["places", "period", "rise", "many"] ["places", "period", "rise"] (defScope s_least_many) := ⟨rfl, rfl, rfl, by decide +kernel, rfl, by decide +kernel, by decide +kernel⟩
theorem ok_least_many (Γ : Gs K mg C) (o_is_repeated : Ok P w K mg base T C "is_repeated" ["places", "many", "period", "rise"] 4 M_is_repeated 1) {f : Addr} {fd : FuncData} (D : Def K mg "least_many" s_least_many ["places", "period", "rise"] f fd) : Ok P w K mg base T C "least_many" ["places", "period", "rise"] 3 M_least_many 2 := by
  exact ok_of D (fun_ok (m := m_least_many) D.F sc_least_many rfl (fun cdv A outer s H E hr => ⟨_, (sss_cons (ss_forT own_def rfl (si_rng2 rfl Γ.b_range (sa_cons se_int (sa_cons (se_callB call_len cs_len rfl Γ.b_len (by decide +kernel) (sa_cons (se_var 0) sa_nil)) sa_nil))) (sg_name 3 sc_least_many.nd) (sss_one (ss_if (SW.pt (sw_and (st_cmp (op_eqA hr.units) os_eq (se_bin op_modN os_mod (se_callB call_len cs_len rfl Γ.b_len (by decide +kernel) (sa_cons (se_var 0) sa_nil)) (se_var 3)) se_int (nomark _)) (sw_and1 (st_truth (se_call o_is_repeated (hr.mono (by decide)) pass_def (sa_cons (se_var 0) (sa_cons (se_var 3) (sa_cons (se_var 1) (sa_cons (se_var 2) sa_nil))))))))) (sss_one (ss_ret (se_var 3))) sss_nil))) (sss_one (ss_ret (se_callB call_len cs_len rfl Γ.b_len (by decide +kernel) (sa_cons (se_var 0) sa_nil)))))⟩) (fun _ _ _ _ => Tells.same _))
abbrev s_from_grid : Stmt := topS 59
abbrev N_from_grid : List Str := ["course", "bottom", "sign", "period", "rise", "marks", "places", "mark", "many", "parts", "told", "x", "_", "at", "behind"]
theorem sc_from_grid : FnScope ["course", "bottom", "sign", "period", "rise", "marks", "places", "mark", "many", "parts", "told", "x", "_", "at", "behind"] ["course", "bottom"] (defScope s_from_grid) := ⟨rfl, rfl, rfl, by decide +kernel, rfl, by decide +kernel, by decide +kernel⟩
theorem ok_from_grid (Γ : Gs K mg C) (o_reduced : Ok P w K mg base T C "reduced" ["top", "bottom"] 2 P_reduced 1) (o_least_many : Ok P w K mg base T C "least_many" ["places", "period", "rise"] 3 M_least_many 2) {f : Addr} {fd : FuncData} (D : Def K mg "from_grid" s_from_grid ["course", "bottom"] f fd) : Ok P w K mg base T C "from_grid" ["course", "bottom"] 2 M_from_grid 3 := by
  obtain ⟨a_NOTHING, h_NOTHING, _⟩ := id Γ.c_NOTHING
  exact ok_of D (fun_ok (m := m_from_grid) D.F sc_from_grid rfl (fun cdv A outer s H E hr => ⟨_, (sss_cons (ss_asg (se_var 0) (sg_tup rfl (sgs_cons (sg_name 2 sc_from_grid.nd) (sgs_cons (sg_name 3 sc_from_grid.nd) (sgs_cons (sg_name 4 sc_from_grid.nd) (sgs_cons (sg_name 5 sc_from_grid.nd) sgs_nil)))))) (sss_cons (ss_setLc 6 (own := [("mark", 7)]) rfl sc_from_grid.nd (si_seq (se_var 5)) (blkOk_by (N := N_from_grid) (sc := defScope s_from_grid) (own := [("mark", 7)]) (by decide +kernel)) (fun _ _ _ _ _ => (sgo_name 7 (by decide) sc_from_grid.nd)) (fun _ _ _ _ _ => ⟨_, (sts_one (st_not (st_chain (op_eqA hr.units) os_eq (op_eqA hr.units) os_eq (se_ix (se_var 7) se_int) (se_ix (se_var 7) se_int) (se_ix (se_var 7) se_int))))⟩) (fun _ _ _ _ _ => ⟨_, (se_var 7)⟩)) (sss_cons (ss_if (st_not (st_truth (se_var 6))) (sss_one (ss_ret (se_tup (sa_cons (se_gtup Γ.c_NOTHING h_NOTHING) (sa_cons (se_call o_reduced (hr.mono (by decide)) pass_def (sa_cons (se_ix (se_ix (se_var 5) se_int) se_int) (sa_cons (se_var 1) sa_nil))) sa_nil))))) sss_nil) (sss_cons (ss_set 8 sc_from_grid.nd (se_call o_least_many (hr.mono (by decide)) pass_def (sa_cons (se_var 6) (sa_cons (se_var 3) (sa_cons (se_var 4) sa_nil))))) (sss_cons (ss_set 9 sc_from_grid.nd (se_bin op_fdivA os_fdiv (se_callB call_len cs_len rfl Γ.b_len (by decide +kernel) (sa_cons (se_var 6) sa_nil)) (se_var 8))) (sss_cons (ss_setLcT 10 (own := [("x", 11), ("_", 12), ("at", 13), ("behind", 14)]) rfl sc_from_grid.nd (si_seq (se_slice (se_var 6) so_none (so_some (se_var 8)))) (blkOk_by (N := N_from_grid) (sc := defScope s_from_grid) (own := [("x", 11), ("_", 12), ("at", 13), ("behind", 14)]) (by decide +kernel)) (fun _ _ _ _ _ => ⟨_, (sgo_tup rfl (sgos_cons (sgo_name 11 (by decide) sc_from_grid.nd) (sgos_cons (sgo_name 12 (by decide) sc_from_grid.nd) (sgos_cons (sgo_name 13 (by decide) sc_from_grid.nd) (sgos_cons (sgo_name 14 (by decide) sc_from_grid.nd) sgos_nil)))))⟩) (fun _ _ _ _ _ => ⟨_, sts_nil⟩) (fun _ _ _ _ _ => ⟨_, (se_tup (sa_cons (se_call o_reduced (hr.mono (by decide)) pass_blk (sa_cons (se_var 11) (sa_cons (se_var 1) sa_nil))) (sa_cons (se_call o_reduced (hr.mono (by decide)) pass_blk (sa_cons (se_var 13) (sa_cons (se_var 1) sa_nil))) (sa_cons (se_call o_reduced (hr.mono (by decide)) pass_blk (sa_cons (se_bin op_sub os_sub (se_var 14) (se_bin op_mulA os_mul (se_var 2) (se_var 11))) (sa_cons (se_var 1) sa_nil))) sa_nil))))⟩)) (sss_one (ss_ret (se_tup (sa_cons (se_tup (sa_cons (se_var 2) (sa_cons se_int sa_nil))) (sa_cons (se_call o_reduced (hr.mono (by decide)) pass_def (sa_cons (se_bin op_fdivA os_fdiv (se_var 3) (se_var 9)) (sa_cons (se_var 1) sa_nil))) (sa_cons (se_call o_reduced (hr.mono (by decide)) pass_def (sa_cons (se_bin op_fdivA os_fdiv (se_var 4) (se_var 9)) (sa_cons (se_var 1) sa_nil))) (sa_cons (se_callTy call_tuple_of cs_tuple rfl Γ.b_tuple (by decide +kernel) (sa_cons (se_var 10) sa_nil)) sa_nil)))))))))))))⟩) (fun _ _ _ _ => Tells.same _))
abbrev s_cut_even : Stmt := topS 49
abbrev N_cut_even : List Str := ["shape", "step", "unit", "span", "wave", "bottom", "width", "sign", "period", "rise", "marks", "copies"]
theorem sc_cut_even : FnScope ["shape", "step", "unit", "span", "wave", "bottom", "width", "sign", "period", "rise", "marks", "copies"] ["shape", "step", "unit"] (defScope s_cut_even) := ⟨rfl, rfl, rfl, by decide +kernel, rfl, by decide +kernel, by decide +kernel⟩
theorem ok_cut_even (Γ : Gs K mg C) (o_times : Ok P w K mg base T C "times" ["one", "other"] 2 P_times 2) (o_span_in_units : Ok P w K mg base T C "span_in_units" ["step"] 1 P_span_in_units 1) (o_as_wave : Ok P w K mg base T C "as_wave" ["shape", "span"] 2 P_as_wave 3) (o_grid_bottom : Ok P w K mg base T C "grid_bottom" ["wave", "unit"] 2 P_grid_bottom 1) (o_on_grid : Ok P w K mg base T C "on_grid" ["fraction", "bottom"] 2 P_on_grid 1) (o_marks_of : Ok P w K mg base T C "marks_of" ["wave", "bottom"] 2 M_marks_of 5) (o_crossings : Ok P w K mg base T C "crossings" ["marks", "sign", "period", "step", "width"] 5 M_crossings 1) (o_stepped_marks : Ok P w K mg base T C "stepped_marks" ["marks", "sign", "step", "width"] 4 M_stepped_marks 5) (o_repeated : Ok P w K mg base T C "repeated" ["marks", "period", "rise", "copies"] 4 M_repeated 1) (o_from_grid : Ok P w K mg base T C "from_grid" ["course", "bottom"] 2 M_from_grid 3) {f : Addr} {fd : FuncData} (D : Def K mg "cut_even" s_cut_even ["shape", "step", "unit"] f fd) : Ok P w K mg base T C "cut_even" ["shape", "step", "unit"] 3 M_cut_even 6 := by
  exact ok_of D (fun_ok (m := m_cut_even) D.F sc_cut_even rfl (fun cdv A outer s H E hr => ⟨_, (sss_cons (ss_set 3 sc_cut_even.nd (se_call o_times (hr.mono (by decide)) pass_def (sa_cons (se_var 2) (sa_cons (se_tup (sa_cons (se_call o_span_in_units (hr.mono (by decide)) pass_def (sa_cons (se_var 1) sa_nil)) (sa_cons se_int sa_nil))) sa_nil)))) (sss_cons (ss_set 4 sc_cut_even.nd (se_call o_as_wave (hr.mono (by decide)) pass_def (sa_cons (se_var 0) (sa_cons (se_var 3) sa_nil)))) (sss_cons (ss_set 5 sc_cut_even.nd (se_call o_grid_bottom (hr.mono (by decide)) pass_def (sa_cons (se_var 4) (sa_cons (se_var 2) sa_nil)))) (sss_cons (ss_set 6 sc_cut_even.nd (se_call o_on_grid (hr.mono (by decide)) pass_def (sa_cons (se_var 2) (sa_cons (se_var 5) sa_nil)))) (sss_cons (ss_set 7 sc_cut_even.nd (se_ix (se_ix (se_var 4) se_int) se_int)) (sss_cons (ss_set 8 sc_cut_even.nd (se_call o_on_grid (hr.mono (by decide)) pass_def (sa_cons (se_ix (se_var 4) se_int) (sa_cons (se_var 5) sa_nil)))) (sss_cons (ss_set 9 sc_cut_even.nd (se_call o_on_grid (hr.mono (by decide)) pass_def (sa_cons (se_ix (se_var 4) se_int) (sa_cons (se_var 5) sa_nil)))) (sss_cons (ss_set 10 sc_cut_even.nd (se_call o_marks_of (hr.mono (by decide)) pass_def (sa_cons (se_var 4) (sa_cons (se_var 5) sa_nil)))) (sss_cons (ss_set 10 sc_cut_even.nd (se_callB Sd.cr_sortedPre cs_sort rfl Γ.b_sorted (by decide +kernel) (sa_cons (se_bin op_addA os_add (se_var 10) (se_call o_crossings (hr.mono (by decide)) pass_def (sa_cons (se_var 10) (sa_cons (se_var 7) (sa_cons (se_var 8) (sa_cons (se_var 1) (sa_cons (se_var 6) sa_nil))))))) sa_nil))) (sss_cons (ss_set 3 sc_cut_even.nd (se_bin op_mulA os_mul (se_call o_span_in_units (hr.mono (by decide)) pass_def (sa_cons (se_var 1) sa_nil)) (se_var 6))) (sss_cons (ss_set 11 sc_cut_even.nd (se_bin op_fdivA os_fdiv (se_var 3) (se_callM cr_gcd cs_int2 rfl Γ.m_gcd (sa_cons (se_var 9) (sa_cons (se_var 3) sa_nil))))) (sss_cons (ss_set 10 sc_cut_even.nd (se_call o_stepped_marks (hr.mono (by decide)) pass_def (sa_cons (se_call o_repeated (hr.mono (by decide)) pass_def (sa_cons (se_var 10) (sa_cons (se_var 8) (sa_cons (se_var 9) (sa_cons (se_var 11) sa_nil))))) (sa_cons (se_var 7) (sa_cons (se_var 1) (sa_cons (se_var 6) sa_nil)))))) (sss_cons (ss_if (st_cmp (op_eqA hr.units) os_eq (se_ix (se_var 1) se_int) se_str (nomark _)) (sss_one (ss_ret (se_call o_from_grid (hr.mono (by decide)) pass_def (sa_cons (se_tup (sa_cons (se_var 7) (sa_cons (se_bin op_mulA os_mul (se_var 8) (se_var 11)) (sa_cons se_int (sa_cons (se_var 10) sa_nil))))) (sa_cons (se_var 5) sa_nil))))) sss_nil) (sss_one (ss_ret (se_call o_from_grid (hr.mono (by decide)) pass_def (sa_cons (se_tup (sa_cons se_int (sa_cons (se_bin op_mulA os_mul (se_var 8) (se_var 11)) (sa_cons (se_bin op_mulA os_mul (se_var 9) (se_var 11)) (sa_cons (se_var 10) sa_nil))))) (sa_cons (se_var 5) sa_nil))))))))))))))))))⟩) (fun _ _ _ _ => Tells.same _))
abbrev s_cut : Stmt := topS 48
abbrev N_cut : List Str := ["shape", "step", "steepness", "even", "unit"]
theorem sc_cut : FnScope ["shape", "step", "steepness", "even", "unit"] ["shape", "step"] (defScope s_cut) := ⟨rfl, rfl, rfl, by decide +kernel, rfl, by decide +kernel, by decide +kernel⟩
theorem ok_cut (Γ : Gs K mg C) (o_size : Ok P w K mg base T C "size" ["fraction"] 1 P_size 1) (o_multiplied : Ok P w K mg base T C "multiplied" ["shape", "factor"] 2 P_multiplied 3) (o_inverse : Ok P w K mg base T C "inverse" ["fraction"] 1 P_inverse 1) (o_times : Ok P w K mg base T C "times" ["one", "other"] 2 P_times 2) (o_cut_even : Ok P w K mg base T C "cut_even" ["shape", "step", "unit"] 3 P_cut_even 6) {f : Addr} {fd : FuncData} (D : Def K mg "cut" s_cut ["shape", "step"] f fd) : Ok P w K mg base T C "cut" ["shape", "step"] 2 M_cut 7 := by
  obtain ⟨a_NOTHING, h_NOTHING, _⟩ := id Γ.c_NOTHING
  obtain ⟨a_ONE, h_ONE, _⟩ := id Γ.c_ONE
  exact ok_of D (fun_ok (m := m_cut) D.F sc_cut rfl (fun cdv A outer s H E hr => ⟨_, (sss_cons (ss_set 2 sc_cut.nd (se_if (st_cmp (op_neA hr.units) os_ne (se_ix (se_var 0) se_int) (se_gtup Γ.c_NOTHING h_NOTHING) (nomark _)) (se_call o_size (hr.mono (by decide)) pass_def (sa_cons (se_ix (se_var 0) se_int) sa_nil)) (se_gtup Γ.c_ONE h_ONE))) (sss_cons (ss_set 3 sc_cut.nd (se_call o_multiplied (hr.mono (by decide)) pass_def (sa_cons (se_var 0) (sa_cons (se_call o_inverse (hr.mono (by decide)) pass_def (sa_cons (se_var 2) sa_nil)) sa_nil)))) (sss_cons (ss_set 4 sc_cut.nd (se_call o_times (hr.mono (by decide)) pass_def (sa_cons (se_ix (se_var 1) se_int) (sa_cons (se_call o_inverse (hr.mono (by decide)) pass_def (sa_cons (se_var 2) sa_nil)) sa_nil)))) (sss_one (ss_ret (se_call o_multiplied (hr.mono (by decide)) pass_def (sa_cons (se_call o_cut_even (hr.mono (by decide)) pass_def (sa_cons (se_var 3) (sa_cons (se_var 1) (sa_cons (se_var 4) sa_nil)))) (sa_cons (se_var 2) sa_nil))))))))⟩) (fun _ _ _ _ => Tells.same _))
abbrev s_followed : Stmt := topS 65
abbrev N_followed : List Str := ["shape", "chain", "step"]
theorem sc_followed : FnScope ["shape", "chain", "step"] ["shape", "chain"] (defScope s_followed) := ⟨rfl, rfl, rfl, by decide +kernel, rfl, by decide +kernel, by decide +kernel⟩
theorem ok_followed (Γ : Gs K mg C) (o_raised : Ok P w K mg base T C "raised" ["shape", "amount"] 2 P_raised 3) (o_multiplied : Ok P w K mg base T C "multiplied" ["shape", "factor"] 2 P_multiplied 3) (o_cut : Ok P w K mg base T C "cut" ["shape", "step"] 2 P_cut 7) {f : Addr} {fd : FuncData} (D : Def K mg "followed" s_followed ["shape", "chain"] f fd) : Ok P w K mg base T C "followed" ["shape", "chain"] 2 M_followed 8 := by
  exact ok_of D (fun_ok (m := m_followed) D.F sc_followed rfl (fun cdv A outer s H E hr => ⟨_, (sss_cons (ss_forT own_def rfl (si_seq (se_var 1)) (sg_name 2 sc_followed.nd) (sss_one (ss_if (st_cmp (op_eqA hr.units) os_eq (se_ix (se_var 2) se_int) se_str (nomark _)) (sss_one (ss_set 0 sc_followed.nd (se_call o_raised (hr.mono (by decide)) pass_def (sa_cons (se_var 0) (sa_cons (se_ix (se_var 2) se_int) sa_nil))))) (sss_one (ss_if (st_cmp (op_eqA hr.units) os_eq (se_ix (se_var 2) se_int) se_str (nomark _)) (sss_one (ss_set 0 sc_followed.nd (se_call o_multiplied (hr.mono (by decide)) pass_def (sa_cons (se_var 0) (sa_cons (se_ix (se_var 2) se_int) sa_nil))))) (sss_one (ss_set 0 sc_followed.nd (se_call o_cut (hr.mono (by decide)) pass_def (sa_cons (se_var 0) (sa_cons (se_var 2) sa_nil)))))))))) (sss_one (ss_ret (se_var 0))))⟩) (fun _ _ _ _ => Tells.same _))
abbrev s_form : Stmt := topS 64
abbrev N_form : List Str := ["chain"]
theorem sc_form : FnScope ["chain"] ["chain"] (defScope s_form) := ⟨rfl, rfl, rfl, by decide +kernel, rfl, by decide +kernel, by decide +kernel⟩
theorem ok_form (Γ : Gs K mg C) (o_check_chain : Ok P w K mg base T C "check_chain" ["chain"] 1 P_check_chain 5) (o_followed : Ok P w K mg base T C "followed" ["shape", "chain"] 2 P_followed 8) {f : Addr} {fd : FuncData} (D : Def K mg "form" s_form ["chain"] f fd) : Ok P w K mg base T C "form" ["chain"] 1 M_form 9 := by
  obtain ⟨a_NO_STEPS, h_NO_STEPS, _⟩ := id Γ.c_NO_STEPS
  exact ok_of D (fun_ok (m := m_form) D.F sc_form rfl (fun cdv A outer s H E hr => ⟨_, (sss_cons (ss_expr (se_call o_check_chain (hr.mono (by decide)) pass_def (sa_cons (se_var 0) sa_nil))) (sss_one (ss_ret (se_call o_followed (hr.mono (by decide)) pass_def (sa_cons (se_gtup Γ.c_NO_STEPS h_NO_STEPS) (sa_cons (se_var 0) sa_nil))))))⟩) (fun _ _ _ _ => Tells.same _))
abbrev s_forms_of : Stmt := topS 81
abbrev N_forms_of : List Str := ["chain", "other"]
theorem sc_forms_of : FnScope ["chain", "other"] ["chain", "other"] (defScope s_forms_of) := ⟨rfl, rfl, rfl, by decide +kernel, rfl, by decide +kernel, by decide +kernel⟩
theorem ok_forms_of (Γ : Gs K mg C) (o_form : Ok P w K mg base T C "form" ["chain"] 1 P_form 9) {f : Addr} {fd : FuncData} (D : Def K mg "forms_of" s_forms_of ["chain", "other"] f fd) : Ok P w K mg base T C "forms_of" ["chain", "other"] 2 M_forms_of 10 := by
  exact ok_of D (fun_ok (m := m_forms_of) D.F sc_forms_of rfl (fun cdv A outer s H E hr => ⟨_, (sss_one (ss_ret (se_tup (sa_cons (se_call o_form (hr.mono (by decide)) pass_def (sa_cons (se_var 0) sa_nil)) (sa_cons (se_call o_form (hr.mono (by decide)) pass_def (sa_cons (se_var 1) sa_nil)) sa_nil)))))⟩) (fun _ _ _ _ => Tells.same _))
abbrev s_same : Stmt := topS 80
abbrev N_same : List Str := ["chain", "other", "one", "two"]
theorem sc_same : FnScope ["chain", "other", "one", "two"] ["chain", "other"] (defScope s_same) := ⟨rfl, rfl, rfl, by decide +kernel, rfl, by decide +kernel, by decide +kernel⟩
theorem ok_same (Γ : Gs K mg C) (o_forms_of : Ok P w K mg base T C "forms_of" ["chain", "other"] 2 P_forms_of 10) {f : Addr} {fd : FuncData} (D : Def K mg "same" s_same ["chain", "other"] f fd) : Ok P w K mg base T C "same" ["chain", "other"] 2 M_same 11 := by
  exact ok_of D (fun_ok (m := m_same) D.F sc_same rfl (fun cdv A outer s H E hr => ⟨_, (sss_cons (ss_asg (se_call o_forms_of (hr.mono (by decide)) pass_def (sa_cons (se_var 0) (sa_cons (se_var 1) sa_nil))) (sg_tup rfl (sgs_cons (sg_name 2 sc_same.nd) (sgs_cons (sg_name 3 sc_same.nd) sgs_nil)))) (sss_one (ss_ret (se_cmp (op_eqA hr.units) os_eq (se_var 2) (se_var 3) (nomark _)))))⟩) (fun _ _ _ _ => Tells.same _))
abbrev s_least_multiple : Stmt := topS 16
abbrev N_least_multiple : List Str := ["one", "other"]
theorem sc_least_multiple : FnScope ["one", "other"] ["one", "other"] (defScope s_least_multiple) := ⟨rfl, rfl, rfl, by decide +kernel, rfl, by decide +kernel, by decide +kernel⟩
theorem ok_least_multiple (Γ : Gs K mg C) (o_reduced : Ok P w K mg base T C "reduced" ["top", "bottom"] 2 P_reduced 1) {f : Addr} {fd : FuncData} (D : Def K mg "least_multiple" s_least_multiple ["one", "other"] f fd) : Ok P w K mg base T C "least_multiple" ["one", "other"] 2 M_least_multiple 2 := by
  exact ok_of D (fun_ok (m := m_least_multiple) D.F sc_least_multiple rfl (fun cdv A outer s H E hr => ⟨_, (sss_one (ss_ret (se_call o_reduced (hr.mono (by decide)) pass_def (sa_cons (se_callM cr_lcm cs_lcm rfl Γ.m_lcm (sa_cons (se_ix (se_var 0) se_int) (sa_cons (se_ix (se_var 1) se_int) sa_nil))) (sa_cons (se_callM cr_gcd cs_int2 rfl Γ.m_gcd (sa_cons (se_ix (se_var 0) se_int) (sa_cons (se_ix (se_var 1) se_int) sa_nil))) sa_nil)))))⟩) (fun _ _ _ _ => Tells.same _))
abbrev s_period_of : Stmt := topS 39
abbrev N_period_of : List Str := ["shape"]
theorem sc_period_of : FnScope ["shape"] ["shape"] (defScope s_period_of) := ⟨rfl, rfl, rfl, by decide +kernel, rfl, by decide +kernel, by decide +kernel⟩
theorem ok_period_of (Γ : Gs K mg C) (o_is_line : Ok P w K mg base T C "is_line" ["shape"] 1 P_is_line 1) {f : Addr} {fd : FuncData} (D : Def K mg "period_of" s_period_of ["shape"] f fd) : Ok P w K mg base T C "period_of" ["shape"] 1 M_period_of 2 := by
  obtain ⟨a_ONE, h_ONE, _⟩ := id Γ.c_ONE
  exact ok_of D (fun_ok (m := m_period_of) D.F sc_period_of rfl (fun cdv A outer s H E hr => ⟨_, (sss_one (ss_ret (se_if (st_truth (se_call o_is_line (hr.mono (by decide)) pass_def (sa_cons (se_var 0) sa_nil))) (se_gtup Γ.c_ONE h_ONE) (se_ix (se_var 0) se_int))))⟩) (fun _ _ _ _ => Tells.same _))
abbrev s_common_period : Stmt := topS 71
abbrev N_common_period : List Str := ["one", "other"]
theorem sc_common_period : FnScope ["one", "other"] ["one", "other"] (defScope s_common_period) := ⟨rfl, rfl, rfl, by decide +kernel, rfl, by decide +kernel, by decide +kernel⟩
theorem ok_common_period (Γ : Gs K mg C) (o_least_multiple : Ok P w K mg base T C "least_multiple" ["one", "other"] 2 P_least_multiple 2) (o_period_of : Ok P w K mg base T C "period_of" ["shape"] 1 P_period_of 2) {f : Addr} {fd : FuncData} (D : Def K mg "common_period" s_common_period ["one", "other"] f fd) : Ok P w K mg base T C "common_period" ["one", "other"] 2 M_common_period 3 := by
  exact ok_of D (fun_ok (m := m_common_period) D.F sc_common_period rfl (fun cdv A outer s H E hr => ⟨_, (sss_one (ss_ret (se_call o_least_multiple (hr.mono (by decide)) pass_def (sa_cons (se_call o_period_of (hr.mono (by decide)) pass_def (sa_cons (se_var 0) sa_nil)) (sa_cons (se_call o_period_of (hr.mono (by decide)) pass_def (sa_cons (se_var 1) sa_nil)) sa_nil)))))⟩) (fun _ _ _ _ => Tells.same _))
abbrev s_places_of : Stmt := topS 40
abbrev N_places_of : List Str := ["shape"]
theorem sc_places_of : FnScope ["shape"] ["shape"] (defScope s_places_of) := ⟨rfl, rfl, rfl, by decide +kernel, rfl, by decide +kernel, by decide +kernel⟩
theorem ok_places_of (Γ : Gs K mg C) (o_is_line : Ok P w K mg base T C "is_line" ["shape"] 1 P_is_line 1) {f : Addr} {fd : FuncData} (D : Def K mg "places_of" s_places_of ["shape"] f fd) : Ok P w K mg base T C "places_of" ["shape"] 1 M_places_of 2 := by
  exact ok_of D (fun_ok (m := m_places_of) D.F sc_places_of rfl (fun cdv A outer s H E hr => ⟨_, (sss_one (ss_ret (se_if (st_truth (se_call o_is_line (hr.mono (by decide)) pass_def (sa_cons (se_var 0) sa_nil))) (se_tup sa_nil) (se_ix (se_var 0) se_int))))⟩) (fun _ _ _ _ => Tells.same _))
abbrev s_count_periods : Stmt := topS 74
abbrev N_count_periods : List Str := ["shape", "end", "period"]
theorem sc_count_periods : FnScope ["shape", "end", "period"] ["shape", "end"] (defScope s_count_periods) := ⟨rfl, rfl, rfl, by decide +kernel, rfl, by decide +kernel, by decide +kernel⟩
theorem ok_count_periods (Γ : Gs K mg C) (o_period_of : Ok P w K mg base T C "period_of" ["shape"] 1 P_period_of 2) {f : Addr} {fd : FuncData} (D : Def K mg "count_periods" s_count_periods ["shape", "end"] f fd) : Ok P w K mg base T C "count_periods" ["shape", "end"] 2 M_count_periods 3 := by
  exact ok_of D (fun_ok (m := m_count_periods) D.F sc_count_periods rfl (fun cdv A outer s H E hr => ⟨_, (sss_cons (ss_set 2 sc_count_periods.nd (se_call o_period_of (hr.mono (by decide)) pass_def (sa_cons (se_var 0) sa_nil))) (sss_one (ss_ret (se_bin op_fdivA os_fdiv (se_bin op_mulA os_mul (se_ix (se_var 1) se_int) (se_ix (se_var 2) se_int)) (se_bin op_mulA os_mul (se_ix (se_var 1) se_int) (se_ix (se_var 2) se_int))))))⟩) (fun _ _ _ _ => Tells.same _))
abbrev s_count_places : Stmt := topS 73
abbrev N_count_places : List Str := ["shape", "end"]
theorem sc_count_places : FnScope ["shape", "end"] ["shape", "end"] (defScope s_count_places) := ⟨rfl, rfl, rfl, by decide +kernel, rfl, by decide +kernel, by decide +kernel⟩
theorem ok_count_places (Γ : Gs K mg C) (o_places_of : Ok P w K mg base T C "places_of" ["shape"] 1 P_places_of 2) (o_count_periods : Ok P w K mg base T C "count_periods" ["shape", "end"] 2 P_count_periods 3) {f : Addr} {fd : FuncData} (D : Def K mg "count_places" s_count_places ["shape", "end"] f fd) : Ok P w K mg base T C "count_places" ["shape", "end"] 2 M_count_places 4 := by
  exact ok_of D (fun_ok (m := m_count_places) D.F sc_count_places rfl (fun cdv A outer s H E hr => ⟨_, (sss_one (ss_ret (se_bin op_mulA os_mul (se_callB call_len cs_len rfl Γ.b_len (by decide +kernel) (sa_cons (se_call o_places_of (hr.mono (by decide)) pass_def (sa_cons (se_var 0) sa_nil)) sa_nil)) (se_call o_count_periods (hr.mono (by decide)) pass_def (sa_cons (se_var 0) (sa_cons (se_var 1) sa_nil))))))⟩) (fun _ _ _ _ => Tells.same _))
abbrev s_check_places : Stmt := topS 72
abbrev N_check_places : List Str := ["one", "other", "end"]
theorem sc_check_places : FnScope ["one", "other", "end"] ["one", "other", "end"] (defScope s_check_places) := ⟨rfl, rfl, rfl, by decide +kernel, rfl, by decide +kernel, by decide +kernel⟩
theorem ok_check_places (Γ : Gs K mg C) (o_count_places : Ok P w K mg base T C "count_places" ["shape", "end"] 2 P_count_places 4) {f : Addr} {fd : FuncData} (D : Def K mg "check_places" s_check_places ["one", "other", "end"] f fd) : Ok P w K mg base T C "check_places" ["one", "other", "end"] 3 M_check_places 5 := by
  exact ok_of D (fun_ok (m := m_check_places) D.F sc_check_places rfl (fun cdv A outer s H E hr => ⟨_, (sss_one (ss_if (st_cmp op_gt os_cmp (se_bin op_addA os_add (se_call o_count_places (hr.mono (by decide)) pass_def (sa_cons (se_var 0) (sa_cons (se_var 2) sa_nil))) (se_call o_count_places (hr.mono (by decide)) pass_def (sa_cons (se_var 1) (sa_cons (se_var 2) sa_nil)))) (se_gint Γ.c_MOST_PLACES) (nomark _)) (sss_one (ss_raiseX (n := 2) Γ.e_TooMany rfl (L2N.takes_of rfl rfl rfl rfl) (fun _ _ _ _ h => h))) sss_nil))⟩) (fun _ _ _ _ => Tells.same _))
abbrev s_growth_of : Stmt := topS 41
abbrev N_growth_of : List Str := ["shape"]
theorem sc_growth_of : FnScope ["shape"] ["shape"] (defScope s_growth_of) := ⟨rfl, rfl, rfl, by decide +kernel, rfl, by decide +kernel, by decide +kernel⟩
theorem ok_growth_of (Γ : Gs K mg C) (o_is_line : Ok P w K mg base T C "is_line" ["shape"] 1 P_is_line 1) (o_times : Ok P w K mg base T C "times" ["one", "other"] 2 P_times 2) (o_inverse : Ok P w K mg base T C "inverse" ["fraction"] 1 P_inverse 1) {f : Addr} {fd : FuncData} (D : Def K mg "growth_of" s_growth_of ["shape"] f fd) : Ok P w K mg base T C "growth_of" ["shape"] 1 M_growth_of 3 := by
  exact ok_of D (fun_ok (m := m_growth_of) D.F sc_growth_of rfl (fun cdv A outer s H E hr => ⟨_, (sss_one (ss_ret (se_if (st_truth (se_call o_is_line (hr.mono (by decide)) pass_def (sa_cons (se_var 0) sa_nil))) (se_ix (se_var 0) se_int) (se_call o_times (hr.mono (by decide)) pass_def (sa_cons (se_ix (se_var 0) se_int) (sa_cons (se_call o_inverse (hr.mono (by decide)) pass_def (sa_cons (se_ix (se_var 0) se_int) sa_nil)) sa_nil))))))⟩) (fun _ _ _ _ => Tells.same _))
abbrev s_starts_of : Stmt := topS 76
abbrev N_starts_of : List Str := ["shape", "end", "slope", "period", "rise", "places", "first", "starts", "shift", "turn", "right", "up", "line_up", "place", "at", "line"]
theorem sc_starts_of : FnScope ["shape", "end", "slope", "period", "rise", "places", "first", "starts", "shift", "turn", "right", "up", "line_up", "place", "at", "line"] ["shape", "end"] (defScope s_starts_of) := ⟨rfl, rfl, rfl, by decide +kernel, rfl, by decide +kernel, by decide +kernel⟩
theorem ok_starts_of (Γ : Gs K mg C) (o_is_line : Ok P w K mg base T C "is_line" ["shape"] 1 P_is_line 1) (o_line_ahead : Ok P w K mg base T C "line_ahead" ["wave"] 1 P_line_ahead 4) (o_minus : Ok P w K mg base T C "minus" ["one", "other"] 2 P_minus 3) (o_times : Ok P w K mg base T C "times" ["one", "other"] 2 P_times 2) (o_count_periods : Ok P w K mg base T C "count_periods" ["shape", "end"] 2 P_count_periods 3) (o_plus : Ok P w K mg base T C "plus" ["one", "other"] 2 P_plus 2) {f : Addr} {fd : FuncData} (D : Def K mg "starts_of" s_starts_of ["shape", "end"] f fd) : Ok P w K mg base T C "starts_of" ["shape", "end"] 2 M_starts_of 5 := by
  obtain ⟨a_NOTHING, h_NOTHING, _⟩ := id Γ.c_NOTHING
  exact ok_of D (fun_ok (m := m_starts_of) D.F sc_starts_of rfl (fun cdv A outer s H E hr => ⟨_, (sss_cons (ss_if (st_truth (se_call o_is_line (hr.mono (by decide)) pass_def (sa_cons (se_var 0) sa_nil))) (sss_one (ss_ret (se_tdisp hr.units (se_gtup Γ.c_NOTHING h_NOTHING) (se_tup (sa_cons (se_ix (se_var 0) se_int) (sa_cons (se_ix (se_var 0) se_int) sa_nil)))))) sss_nil) (sss_cons (ss_asg (se_var 0) (sg_tup rfl (sgs_cons (sg_name 2 sc_starts_of.nd) (sgs_cons (sg_name 3 sc_starts_of.nd) (sgs_cons (sg_name 4 sc_starts_of.nd) (sgs_cons (sg_name 5 sc_starts_of.nd) sgs_nil)))))) (sss_cons (ss_set 6 sc_starts_of.nd (se_call o_line_ahead (hr.mono (by decide)) pass_def (sa_cons (se_var 0) sa_nil))) (sss_cons (ss_set 7 sc_starts_of.nd (se_tdisp hr.units (se_gtup Γ.c_NOTHING h_NOTHING) (se_tup (sa_cons (se_var 6) (sa_cons (se_var 6) sa_nil))))) (sss_cons (ss_set 8 sc_starts_of.nd (se_call o_minus (hr.mono (by decide)) pass_def (sa_cons (se_var 4) (sa_cons (se_call o_times (hr.mono (by decide)) pass_def (sa_cons (se_var 2) (sa_cons (se_var 3) sa_nil))) sa_nil)))) (sss_cons (ss_forT own_def rfl (si_rng1 rfl Γ.b_range (sa_cons (se_call o_count_periods (hr.mono (by decide)) pass_def (sa_cons (se_var 0) (sa_cons (se_var 1) sa_nil))) sa_nil)) (sg_name 9 sc_starts_of.nd) (sss_cons (ss_set 10 sc_starts_of.nd (se_call o_times (hr.mono (by decide)) pass_def (sa_cons (se_tup (sa_cons (se_var 9) (sa_cons se_int sa_nil))) (sa_cons (se_var 3) sa_nil)))) (sss_cons (ss_set 11 sc_starts_of.nd (se_call o_times (hr.mono (by decide)) pass_def (sa_cons (se_tup (sa_cons (se_var 9) (sa_cons se_int sa_nil))) (sa_cons (se_var 4) sa_nil)))) (sss_cons (ss_set 12 sc_starts_of.nd (se_call o_times (hr.mono (by decide)) pass_def (sa_cons (se_tup (sa_cons (se_var 9) (sa_cons se_int sa_nil))) (sa_cons (se_var 8) sa_nil)))) (sss_one (ss_forT own_def rfl (si_seq (se_var 5)) (sg_tup rfl (sgs_cons (sg_name 13 sc_starts_of.nd) (sgs_cons (sg_name 14 sc_starts_of.nd) (sgs_cons (sg_name 15 sc_starts_of.nd) sgs_nil)))) (sss_one (ss_tput hr.units (se_var 7) (se_call o_plus (hr.mono (by decide)) pass_def (sa_cons (se_var 13) (sa_cons (se_var 10) sa_nil))) (se_tup (sa_cons (se_call o_plus (hr.mono (by decide)) pass_def (sa_cons (se_var 14) (sa_cons (se_var 11) sa_nil))) (sa_cons (se_call o_plus (hr.mono (by decide)) pass_def (sa_cons (se_var 15) (sa_cons (se_var 12) sa_nil))) sa_nil))))))))))) (sss_one (ss_ret (se_var 7)))))))))⟩) (fun _ _ _ _ => Tells.same _))
abbrev s_ascending : Stmt := topS 78
abbrev N_ascending : List Str := ["numbers", "bottom", "number", "by_top", "top"]
theorem sc_ascending : FnScope ["numbers", "bottom", "number", "by_top", "top"] ["numbers"] (defScope s_ascending) := ⟨rfl, rfl, rfl, by decide +kernel, rfl, by decide +kernel, by decide +kernel⟩
theorem ok_ascending (Γ : Gs K mg C)  {f : Addr} {fd : FuncData} (D : Def K mg "ascending" s_ascending ["numbers"] f fd) : Ok P w K mg base T C "ascending" ["numbers"] 1 M_ascending 1 := by
  exact ok_of D (fun_ok (m := m_ascending) D.F sc_ascending rfl (fun cdv A outer s H E hr => ⟨_, (sss_cons (ss_set 1 sc_ascending.nd se_int) (sss_cons (ss_forT own_def rfl (si_seq (se_var 0)) (sg_name 2 sc_ascending.nd) (sss_one (ss_set 1 sc_ascending.nd (se_callM cr_lcm cs_lcm rfl Γ.m_lcm (sa_cons (se_var 1) (sa_cons (se_ix (se_var 2) se_int) sa_nil)))))) (sss_cons (ss_set 3 sc_ascending.nd (se_dc (own := [("number", 2)]) rfl sc_ascending.nd (si_seq (se_var 0)) (blkOk_by (N := N_ascending) (sc := defScope s_ascending) (own := [("number", 2)]) (by decide +kernel)) (fun _ _ _ _ _ => sgo_name 2 (by decide) sc_ascending.nd) (fun _ _ _ _ _ => ⟨_, sts_nil⟩) (fun _ _ _ _ _ => ⟨_, (se_bin op_mulA os_mul (se_ix (se_var 2) se_int) (se_bin op_fdivA os_fdiv (se_var 1) (se_ix (se_var 2) se_int)))⟩) (fun _ _ _ _ _ => ⟨_, (se_var 2)⟩))) (sss_one (ss_ret (se_lc (own := [("top", 4)]) rfl sc_ascending.nd (si_seq (se_callB cr_sortedI cs_sortI rfl Γ.b_sorted (by decide +kernel) (sa_cons (se_callTy (call_listD rfl) cs_listK rfl Γ.b_list (by decide +kernel) (sa_cons (se_var 3) sa_nil)) sa_nil))) (blkOk_by (N := N_ascending) (sc := defScope s_ascending) (own := [("top", 4)]) (by decide +kernel)) (fun _ _ _ _ _ => (sgo_name 4 (by decide) sc_ascending.nd)) (fun _ _ _ _ _ => ⟨_, sts_nil⟩) (fun _ _ _ _ _ => ⟨_, (se_kget hr.units (se_var 3) (se_var 4))⟩)))))))⟩) (fun _ _ _ _ => Tells.same _))
abbrev s_at_line : Stmt := topS 42
abbrev N_at_line : List Str := ["slope", "number", "line"]
theorem sc_at_line : FnScope ["slope", "number", "line"] ["slope", "number", "line"] (defScope s_at_line) := ⟨rfl, rfl, rfl, by decide +kernel, rfl, by decide +kernel, by decide +kernel⟩
theorem ok_at_line (Γ : Gs K mg C) (o_plus : Ok P w K mg base T C "plus" ["one", "other"] 2 P_plus 2) (o_times : Ok P w K mg base T C "times" ["one", "other"] 2 P_times 2) {f : Addr} {fd : FuncData} (D : Def K mg "at_line" s_at_line ["slope", "number", "line"] f fd) : Ok P w K mg base T C "at_line" ["slope", "number", "line"] 3 M_at_line 3 := by
  exact ok_of D (fun_ok (m := m_at_line) D.F sc_at_line rfl (fun cdv A outer s H E hr => ⟨_, (sss_one (ss_ret (se_call o_plus (hr.mono (by decide)) pass_def (sa_cons (se_call o_times (hr.mono (by decide)) pass_def (sa_cons (se_var 0) (sa_cons (se_var 1) sa_nil))) (sa_cons (se_var 2) sa_nil)))))⟩) (fun _ _ _ _ => Tells.same _))
abbrev s_start_at : Stmt := topS 77
abbrev N_start_at : List Str := ["starts", "number", "slope", "last"]
theorem sc_start_at : FnScope ["starts", "number", "slope", "last"] ["starts", "number", "slope", "last"] (defScope s_start_at) := ⟨rfl, rfl, rfl, by decide +kernel, rfl, by decide +kernel, by decide +kernel⟩
theorem ok_start_at (Γ : Gs K mg C) (o_at_line : Ok P w K mg base T C "at_line" ["slope", "number", "line"] 3 P_at_line 3) {f : Addr} {fd : FuncData} (D : Def K mg "start_at" s_start_at ["starts", "number", "slope", "last"] f fd) : Ok P w K mg base T C "start_at" ["starts", "number", "slope", "last"] 4 M_start_at 4 := by
  exact ok_of D (fun_ok (m := m_start_at) D.F sc_start_at rfl (fun cdv A outer s H E hr => ⟨_, (sss_cons (ss_if (st_cmp (op_tin hr.units) os_memT (se_var 1) (se_var 0) (by rfl)) (sss_one (ss_ret (se_tget hr.units (se_var 0) (se_var 1)))) sss_nil) (sss_one (ss_ret (se_tup (sa_cons (se_call o_at_line (hr.mono (by decide)) pass_def (sa_cons (se_var 2) (sa_cons (se_var 1) (sa_cons (se_ix (se_var 3) se_int) sa_nil)))) (sa_cons (se_ix (se_var 3) se_int) sa_nil))))))⟩) (fun _ _ _ _ => Tells.same _))
abbrev s_list_gaps : Stmt := topS 75
abbrev N_list_gaps : List Str := ["one", "other", "end", "starts", "other_starts", "numbers", "slope", "gaps", "start", "other_start", "low", "high"]
theorem sc_list_gaps : FnScope ["one", "other", "end", "starts", "other_starts", "numbers", "slope", "gaps", "start", "other_start", "low", "high"] ["one", "other", "end"] (defScope s_list_gaps) := ⟨rfl, rfl, rfl, by decide +kernel, rfl, by decide +kernel, by decide +kernel⟩
theorem ok_list_gaps (Γ : Gs K mg C) (o_starts_of : Ok P w K mg base T C "starts_of" ["shape", "end"] 2 M_starts_of 5) (o_ascending : Ok P w K mg base T C "ascending" ["numbers"] 1 M_ascending 1) (o_minus : Ok P w K mg base T C "minus" ["one", "other"] 2 P_minus 3) (o_start_at : Ok P w K mg base T C "start_at" ["starts", "number", "slope", "last"] 4 M_start_at 4) {f : Addr} {fd : FuncData} (D : Def K mg "list_gaps" s_list_gaps ["one", "other", "end"] f fd) : Ok P w K mg base T C "list_gaps" ["one", "other", "end"] 3 M_list_gaps 6 := by
  exact ok_of D (fun_ok (m := m_list_gaps) D.F sc_list_gaps rfl (fun cdv A outer s H E hr => ⟨_, (sss_cons (ss_set 3 sc_list_gaps.nd (se_call o_starts_of (hr.mono (by decide)) pass_def (sa_cons (se_var 0) (sa_cons (se_var 2) sa_nil)))) (sss_cons (ss_set 4 sc_list_gaps.nd (se_call o_starts_of (hr.mono (by decide)) pass_def (sa_cons (se_var 1) (sa_cons (se_var 2) sa_nil)))) (sss_cons (ss_set 5 sc_list_gaps.nd (se_call o_ascending (hr.mono (by decide)) pass_def (sa_cons (se_bin op_addA os_add (se_callTy (call_list_tI rfl) cs_listT rfl Γ.b_list (by decide +kernel) (sa_cons (se_var 3) sa_nil)) (se_callTy (call_list_tI rfl) cs_listT rfl Γ.b_list (by decide +kernel) (sa_cons (se_var 4) sa_nil))) sa_nil))) (sss_cons (ss_set 6 sc_list_gaps.nd (se_call o_minus (hr.mono (by decide)) pass_def (sa_cons (se_ix (se_var 0) se_int) (sa_cons (se_ix (se_var 1) se_int) sa_nil)))) (sss_cons (ss_set 7 sc_list_gaps.nd (se_lst sa_nil)) (sss_cons (ss_asg2 se_non (sg_name 8 sc_list_gaps.nd) (sg_name 9 sc_list_gaps.nd)) (sss_cons (ss_forT own_def rfl (si_zip rfl Γ.b_zip (sa_cons (se_var 5) (sa_cons (se_bin op_addA os_add (se_slice (se_var 5) (so_some se_int) so_none) (se_lst (sa_cons (se_var 2) sa_nil))) sa_nil))) (sg_tup rfl (sgs_cons (sg_name 10 sc_list_gaps.nd) (sgs_cons (sg_name 11 sc_list_gaps.nd) sgs_nil))) (sss_cons (ss_set 8 sc_list_gaps.nd (se_call o_start_at (hr.mono (by decide)) pass_def (sa_cons (se_var 3) (sa_cons (se_var 10) (sa_cons (se_ix (se_var 0) se_int) (sa_cons (se_var 8) sa_nil)))))) (sss_cons (ss_set 9 sc_list_gaps.nd (se_call o_start_at (hr.mono (by decide)) pass_def (sa_cons (se_var 4) (sa_cons (se_var 10) (sa_cons (se_ix (se_var 1) se_int) (sa_cons (se_var 9) sa_nil)))))) (sss_one (ss_expr (se_meth PySem.F.plainAttrs_list PySem.F.slot_list_append PySem.F.type_list_append mt_append ms_append (se_var 7) (sa_cons (se_tup (sa_cons (se_var 10) (sa_cons (se_var 11) (sa_cons (se_call o_minus (hr.mono (by decide)) pass_def (sa_cons (se_ix (se_var 8) se_int) (sa_cons (se_ix (se_var 9) se_int) sa_nil))) (sa_cons (se_var 6) (sa_cons (se_call o_minus (hr.mono (by decide)) pass_def (sa_cons (se_ix (se_var 8) se_int) (sa_cons (se_ix (se_var 9) se_int) sa_nil))) sa_nil)))))) sa_nil))))))) (sss_one (ss_ret (se_var 7))))))))))⟩) (fun _ _ _ _ => Tells.same _))
abbrev s_compared : Stmt := topS 84
abbrev N_compared : List Str := ["chain", "other", "one", "two", "common"]
theorem sc_compared : FnScope ["chain", "other", "one", "two", "common"] ["chain", "other"] (defScope s_compared) := ⟨rfl, rfl, rfl, by decide +kernel, rfl, by decide +kernel, by decide +kernel⟩
theorem ok_compared (Γ : Gs K mg C) (o_forms_of : Ok P w K mg base T C "forms_of" ["chain", "other"] 2 P_forms_of 10) (o_common_period : Ok P w K mg base T C "common_period" ["one", "other"] 2 P_common_period 3) (o_check_places : Ok P w K mg base T C "check_places" ["one", "other", "end"] 3 P_check_places 5) (o_growth_of : Ok P w K mg base T C "growth_of" ["shape"] 1 P_growth_of 3) (o_list_gaps : Ok P w K mg base T C "list_gaps" ["one", "other", "end"] 3 M_list_gaps 6) {f : Addr} {fd : FuncData} (D : Def K mg "compared" s_compared ["chain", "other"] f fd) : Ok P w K mg base T C "compared" ["chain", "other"] 2 M_compared 11 := by
  exact ok_of D (fun_ok (m := m_compared) D.F sc_compared rfl (fun cdv A outer s H E hr => ⟨_, (sss_cons (ss_asg (se_call o_forms_of (hr.mono (by decide)) pass_def (sa_cons (se_var 0) (sa_cons (se_var 1) sa_nil))) (sg_tup rfl (sgs_cons (sg_name 2 sc_compared.nd) (sgs_cons (sg_name 3 sc_compared.nd) sgs_nil)))) (sss_cons (ss_set 4 sc_compared.nd (se_call o_common_period (hr.mono (by decide)) pass_def (sa_cons (se_var 2) (sa_cons (se_var 3) sa_nil)))) (sss_cons (ss_expr (se_call o_check_places (hr.mono (by decide)) pass_def (sa_cons (se_var 2) (sa_cons (se_var 3) (sa_cons (se_var 4) sa_nil))))) (sss_cons (ss_if (st_cmp (op_neA hr.units) os_ne (se_call o_growth_of (hr.mono (by decide)) pass_def (sa_cons (se_var 2) sa_nil)) (se_call o_growth_of (hr.mono (by decide)) pass_def (sa_cons (se_var 3) sa_nil)) (nomark _)) (sss_one (ss_ret (se_tup (sa_cons (se_var 4) (sa_cons se_non sa_nil))))) sss_nil) (sss_one (ss_ret (se_tup (sa_cons (se_var 4) (sa_cons (se_call o_list_gaps (hr.mono (by decide)) pass_def (sa_cons (se_var 2) (sa_cons (se_var 3) (sa_cons (se_var 4) sa_nil)))) sa_nil)))))))))⟩) (fun _ _ _ _ => Tells.same _))
abbrev s_unlike_share : Stmt := topS 82
abbrev N_unlike_share : List Str := ["chain", "other", "common", "gaps", "total", "low", "high", "_", "slope", "line"]
theorem sc_unlike_share : FnScope ["chain", "other", "common", "gaps", "total", "low", "high", "_", "slope", "line"] ["chain", "other"] (defScope s_unlike_share) := ⟨rfl, rfl, rfl, by decide +kernel, rfl, by decide +kernel, by decide +kernel⟩
theorem ok_unlike_share (Γ : Gs K mg C) (o_compared : Ok P w K mg base T C "compared" ["chain", "other"] 2 M_compared 11) (o_plus : Ok P w K mg base T C "plus" ["one", "other"] 2 P_plus 2) (o_minus : Ok P w K mg base T C "minus" ["one", "other"] 2 P_minus 3) (o_times : Ok P w K mg base T C "times" ["one", "other"] 2 P_times 2) (o_inverse : Ok P w K mg base T C "inverse" ["fraction"] 1 P_inverse 1) {f : Addr} {fd : FuncData} (D : Def K mg "unlike_share" s_unlike_share ["chain", "other"] f fd) : Ok P w K mg base T C "unlike_share" ["chain", "other"] 2 M_unlike_share 12 := by
  obtain ⟨a_NOTHING, h_NOTHING, _⟩ := id Γ.c_NOTHING
  obtain ⟨a_ONE, h_ONE, _⟩ := id Γ.c_ONE
  exact ok_of D (fun_ok (m := m_unlike_share) D.F sc_unlike_share rfl (fun cdv A outer s H E hr => ⟨_, (sss_cons (ss_asg (se_call o_compared (hr.mono (by decide)) pass_def (sa_cons (se_var 0) (sa_cons (se_var 1) sa_nil))) (sg_tup rfl (sgs_cons (sg_name 2 sc_unlike_share.nd) (sgs_cons (sg_name 3 sc_unlike_share.nd) sgs_nil)))) (sss_cons (ss_if (st_isN (se_var 3)) (sss_one (ss_ret (se_gtup Γ.c_ONE h_ONE))) sss_nil) (sss_cons (ss_set 4 sc_unlike_share.nd (se_gtup Γ.c_NOTHING h_NOTHING)) (sss_cons (ss_forT own_def rfl (si_seq (se_var 3)) (sg_tup rfl (sgs_cons (sg_name 5 sc_unlike_share.nd) (sgs_cons (sg_name 6 sc_unlike_share.nd) (sgs_cons (sg_name 7 sc_unlike_share.nd) (sgs_cons (sg_name 8 sc_unlike_share.nd) (sgs_cons (sg_name 9 sc_unlike_share.nd) sgs_nil)))))) (sss_one (ss_if (SW.pt (sw_or (st_cmp (op_neA hr.units) os_ne (se_var 8) (se_gtup Γ.c_NOTHING h_NOTHING) (nomark _)) (sw_or1 (st_cmp (op_neA hr.units) os_ne (se_var 9) (se_gtup Γ.c_NOTHING h_NOTHING) (nomark _))))) (sss_one (ss_set 4 sc_unlike_share.nd (se_call o_plus (hr.mono (by decide)) pass_def (sa_cons (se_var 4) (sa_cons (se_call o_minus (hr.mono (by decide)) pass_def (sa_cons (se_var 6) (sa_cons (se_var 5) sa_nil))) sa_nil))))) sss_nil))) (sss_one (ss_ret (se_call o_times (hr.mono (by decide)) pass_def (sa_cons (se_var 4) (sa_cons (se_call o_inverse (hr.mono (by decide)) pass_def (sa_cons (se_var 2) sa_nil)) sa_nil)))))))))⟩) (fun _ _ _ _ => Tells.same _))
abbrev s_is_less : Stmt := topS 15
abbrev N_is_less : List Str := ["one", "other"]
theorem sc_is_less : FnScope ["one", "other"] ["one", "other"] (defScope s_is_less) := ⟨rfl, rfl, rfl, by decide +kernel, rfl, by decide +kernel, by decide +kernel⟩
theorem ok_is_less (Γ : Gs K mg C)  {f : Addr} {fd : FuncData} (D : Def K mg "is_less" s_is_less ["one", "other"] f fd) : Ok P w K mg base T C "is_less" ["one", "other"] 2 M_is_less 1 := by
  exact ok_of D (fun_ok (m := m_is_less) D.F sc_is_less rfl (fun cdv A outer s H E hr => ⟨_, (sss_one (ss_ret (se_cmp op_lt os_cmp (se_bin op_mulA os_mul (se_ix (se_var 0) se_int) (se_ix (se_var 1) se_int)) (se_bin op_mulA os_mul (se_ix (se_var 1) se_int) (se_ix (se_var 0) se_int)) (nomark _))))⟩) (fun _ _ _ _ => Tells.same _))
abbrev s_greater_gap : Stmt := topS 85
abbrev N_greater_gap : List Str := ["gap", "other"]
theorem sc_greater_gap : FnScope ["gap", "other"] ["gap", "other"] (defScope s_greater_gap) := ⟨rfl, rfl, rfl, by decide +kernel, rfl, by decide +kernel, by decide +kernel⟩
theorem ok_greater_gap (Γ : Gs K mg C) (o_is_less : Ok P w K mg base T C "is_less" ["one", "other"] 2 P_is_less 1) {f : Addr} {fd : FuncData} (D : Def K mg "greater_gap" s_greater_gap ["gap", "other"] f fd) : Ok P w K mg base T C "greater_gap" ["gap", "other"] 2 M_greater_gap 2 := by
  exact ok_of D (fun_ok (m := m_greater_gap) D.F sc_greater_gap rfl (fun cdv A outer s H E hr => ⟨_, (sss_cons (ss_if (SW.pt (sw_or (st_truth (se_call o_is_less (hr.mono (by decide)) pass_def (sa_cons (se_ix (se_var 0) se_int) (sa_cons (se_ix (se_var 1) se_int) sa_nil)))) (sw_or1 (SW.pt (sw_and (st_cmp (op_eqA hr.units) os_eq (se_ix (se_var 0) se_int) (se_ix (se_var 1) se_int) (nomark _)) (sw_and1 (st_truth (se_ix (se_var 1) se_int)))))))) (sss_one (ss_ret (se_var 1))) sss_nil) (sss_one (ss_ret (se_var 0))))⟩) (fun _ _ _ _ => Tells.same _))
abbrev s_greatest_gap : Stmt := topS 83
abbrev N_greatest_gap : List Str := ["chain", "other", "_", "gaps", "greatest", "low", "high", "at", "slope", "line", "is_level"]
theorem sc_greatest_gap : FnScope ["chain", "other", "_", "gaps", "greatest", "low", "high", "at", "slope", "line", "is_level"] ["chain", "other"] (defScope s_greatest_gap) := ⟨rfl, rfl, rfl, by decide +kernel, rfl, by decide +kernel, by decide +kernel⟩
theorem ok_greatest_gap (Γ : Gs K mg C) (o_compared : Ok P w K mg base T C "compared" ["chain", "other"] 2 M_compared 11) (o_greater_gap : Ok P w K mg base T C "greater_gap" ["gap", "other"] 2 P_greater_gap 2) (o_size : Ok P w K mg base T C "size" ["fraction"] 1 P_size 1) (o_at_line : Ok P w K mg base T C "at_line" ["slope", "number", "line"] 3 P_at_line 3) {f : Addr} {fd : FuncData} (D : Def K mg "greatest_gap" s_greatest_gap ["chain", "other"] f fd) : Ok P w K mg base T C "greatest_gap" ["chain", "other"] 2 M_greatest_gap 12 := by
  obtain ⟨a_NOTHING, h_NOTHING, _⟩ := id Γ.c_NOTHING
  exact ok_of D (fun_ok (m := m_greatest_gap) D.F sc_greatest_gap rfl (fun cdv A outer s H E hr => ⟨_, (sss_cons (ss_asg (se_call o_compared (hr.mono (by decide)) pass_def (sa_cons (se_var 0) (sa_cons (se_var 1) sa_nil))) (sg_tup rfl (sgs_cons (sg_name 2 sc_greatest_gap.nd) (sgs_cons (sg_name 3 sc_greatest_gap.nd) sgs_nil)))) (sss_cons (ss_if (st_isN (se_var 3)) (sss_one (ss_ret se_non)) sss_nil) (sss_cons (ss_set 4 sc_greatest_gap.nd (se_tup (sa_cons (se_gtup Γ.c_NOTHING h_NOTHING) (sa_cons se_bl sa_nil)))) (sss_cons (ss_forT own_def rfl (si_seq (se_var 3)) (sg_tup rfl (sgs_cons (sg_name 5 sc_greatest_gap.nd) (sgs_cons (sg_name 6 sc_greatest_gap.nd) (sgs_cons (sg_name 7 sc_greatest_gap.nd) (sgs_cons (sg_name 8 sc_greatest_gap.nd) (sgs_cons (sg_name 9 sc_greatest_gap.nd) sgs_nil)))))) (sss_cons (ss_set 10 sc_greatest_gap.nd (se_cmp (op_eqA hr.units) os_eq (se_var 8) (se_gtup Γ.c_NOTHING h_NOTHING) (nomark _))) (sss_cons (ss_set 4 sc_greatest_gap.nd (se_call o_greater_gap (hr.mono (by decide)) pass_def (sa_cons (se_var 4) (sa_cons (se_tup (sa_cons (se_call o_size (hr.mono (by decide)) pass_def (sa_cons (se_var 7) sa_nil)) (sa_cons se_bl sa_nil))) sa_nil)))) (sss_cons (ss_set 4 sc_greatest_gap.nd (se_call o_greater_gap (hr.mono (by decide)) pass_def (sa_cons (se_var 4) (sa_cons (se_tup (sa_cons (se_call o_size (hr.mono (by decide)) pass_def (sa_cons (se_call o_at_line (hr.mono (by decide)) pass_def (sa_cons (se_var 8) (sa_cons (se_var 5) (sa_cons (se_var 9) sa_nil)))) sa_nil)) (sa_cons (se_var 10) sa_nil))) sa_nil)))) (sss_one (ss_set 4 sc_greatest_gap.nd (se_call o_greater_gap (hr.mono (by decide)) pass_def (sa_cons (se_var 4) (sa_cons (se_tup (sa_cons (se_call o_size (hr.mono (by decide)) pass_def (sa_cons (se_call o_at_line (hr.mono (by decide)) pass_def (sa_cons (se_var 8) (sa_cons (se_var 6) (sa_cons (se_var 9) sa_nil)))) sa_nil)) (sa_cons (se_var 10) sa_nil))) sa_nil))))))))) (sss_one (ss_ret (se_var 4)))))))⟩) (fun _ _ _ _ => Tells.same _))
abbrev s_check_number : Stmt := topS 33
abbrev N_check_number : List Str := ["number"]
theorem sc_check_number : FnScope ["number"] ["number"] (defScope s_check_number) := ⟨rfl, rfl, rfl, by decide +kernel, rfl, by decide +kernel, by decide +kernel⟩
theorem ok_check_number (Γ : Gs K mg C) (o_is_fraction : Ok P w K mg base T C "is_fraction" ["value", "largest"] 2 P_is_fraction 2) {f : Addr} {fd : FuncData} (D : Def K mg "check_number" s_check_number ["number"] f fd) : Ok P w K mg base T C "check_number" ["number"] 1 M_check_number 3 := by
  exact ok_of D (fun_ok (m := m_check_number) D.F sc_check_number rfl (fun cdv A outer s H E hr => ⟨_, (sss_one (ss_if (st_not (st_truth (se_call o_is_fraction (hr.mono (by decide)) pass_def (sa_cons (se_var 0) (sa_cons (se_gint Γ.c_LARGEST_IN_NUMBER) sa_nil))))) (sss_one (ss_raiseX (n := 1) Γ.e_InvalidNumber rfl (L2N.takes_of rfl rfl rfl rfl) (fun _ _ _ _ h => h))) sss_nil))⟩) (fun _ _ _ _ => Tells.same _))
abbrev s_single : Stmt := topS 90
abbrev N_single : List Str := ["number"]
theorem sc_single : FnScope ["number"] ["number"] (defScope s_single) := ⟨rfl, rfl, rfl, by decide +kernel, rfl, by decide +kernel, by decide +kernel⟩
theorem ok_single (Γ : Gs K mg C)  {f : Addr} {fd : FuncData} (D : Def K mg "single" s_single ["number"] f fd) : Ok P w K mg base T C "single" ["number"] 1 M_single 1 := by
  exact ok_of D (fun_ok (m := m_single) D.F sc_single rfl (fun cdv A outer s H E hr => ⟨_, (sss_one (ss_ret (se_tup (sa_cons (se_var 0) (sa_cons (se_var 0) (sa_cons se_bl (sa_cons se_bl sa_nil)))))))⟩) (fun _ _ _ _ => Tells.same _))
abbrev s_number_on_line : Stmt := topS 91
abbrev N_number_on_line : List Str := ["slope", "a", "value"]
theorem sc_number_on_line : FnScope ["slope", "a", "value"] ["slope", "a", "value"] (defScope s_number_on_line) := ⟨rfl, rfl, rfl, by decide +kernel, rfl, by decide +kernel, by decide +kernel⟩
theorem ok_number_on_line (Γ : Gs K mg C) (o_times : Ok P w K mg base T C "times" ["one", "other"] 2 P_times 2) (o_inverse : Ok P w K mg base T C "inverse" ["fraction"] 1 P_inverse 1) (o_minus : Ok P w K mg base T C "minus" ["one", "other"] 2 P_minus 3) {f : Addr} {fd : FuncData} (D : Def K mg "number_on_line" s_number_on_line ["slope", "a", "value"] f fd) : Ok P w K mg base T C "number_on_line" ["slope", "a", "value"] 3 M_number_on_line 4 := by
  exact ok_of D (fun_ok (m := m_number_on_line) D.F sc_number_on_line rfl (fun cdv A outer s H E hr => ⟨_, (sss_one (ss_ret (se_call o_times (hr.mono (by decide)) pass_def (sa_cons (se_call o_minus (hr.mono (by decide)) pass_def (sa_cons (se_var 2) (sa_cons (se_var 1) sa_nil))) (sa_cons (se_call o_inverse (hr.mono (by decide)) pass_def (sa_cons (se_var 0) sa_nil)) sa_nil)))))⟩) (fun _ _ _ _ => Tells.same _))
abbrev s_line_sources : Stmt := topS 89
abbrev N_line_sources : List Str := ["line", "number", "slope", "a"]
theorem sc_line_sources : FnScope ["line", "number", "slope", "a"] ["line", "number"] (defScope s_line_sources) := ⟨rfl, rfl, rfl, by decide +kernel, rfl, by decide +kernel, by decide +kernel⟩
theorem ok_line_sources (Γ : Gs K mg C) (o_single : Ok P w K mg base T C "single" ["number"] 1 P_single 1) (o_number_on_line : Ok P w K mg base T C "number_on_line" ["slope", "a", "value"] 3 P_number_on_line 4) {f : Addr} {fd : FuncData} (D : Def K mg "line_sources" s_line_sources ["line", "number"] f fd) : Ok P w K mg base T C "line_sources" ["line", "number"] 2 M_line_sources 5 := by
  obtain ⟨a_ALL_NUMBERS, h_ALL_NUMBERS, _⟩ := id Γ.c_ALL_NUMBERS
  obtain ⟨a_NOTHING, h_NOTHING, _⟩ := id Γ.c_NOTHING
  exact ok_of D (fun_ok (m := m_line_sources) D.F sc_line_sources rfl (fun cdv A outer s H E hr => ⟨_, (sss_cons (ss_asg (se_var 0) (sg_tup rfl (sgs_cons (sg_name 2 sc_line_sources.nd) (sgs_cons (sg_name 3 sc_line_sources.nd) sgs_nil)))) (sss_cons (ss_if (st_cmp (op_neA hr.units) os_ne (se_var 2) (se_gtup Γ.c_NOTHING h_NOTHING) (nomark _)) (sss_one (ss_ret (se_tup (sa_cons (se_call o_single (hr.mono (by decide)) pass_def (sa_cons (se_call o_number_on_line (hr.mono (by decide)) pass_def (sa_cons (se_var 2) (sa_cons (se_var 3) (sa_cons (se_var 1) sa_nil)))) sa_nil)) sa_nil)))) sss_nil) (sss_one (ss_ret (se_if (st_cmp (op_eqA hr.units) os_eq (se_var 3) (se_var 1) (nomark _)) (se_tup (sa_cons (se_gtup Γ.c_ALL_NUMBERS h_ALL_NUMBERS) sa_nil)) (se_tup sa_nil))))))⟩) (fun _ _ _ _ => Tells.same _))
abbrev s_pieces_of : Stmt := topS 92
abbrev N_pieces_of : List Str := ["wave", "slope", "period", "_", "places", "pieces", "ends", "place", "end", "at", "line"]
theorem sc_pieces_of : FnScope ["wave", "slope", "period", "_", "places", "pieces", "ends", "place", "end", "at", "line"] ["wave"] (defScope s_pieces_of) := ⟨rfl, rfl, rfl, by decide +kernel, rfl, by decide +kernel, by decide +kernel⟩
theorem ok_pieces_of (Γ : Gs K mg C) (o_line_ahead : Ok P w K mg base T C "line_ahead" ["wave"] 1 P_line_ahead 4) {f : Addr} {fd : FuncData} (D : Def K mg "pieces_of" s_pieces_of ["wave"] f fd) : Ok P w K mg base T C "pieces_of" ["wave"] 1 M_pieces_of 5 := by
  obtain ⟨a_NOTHING, h_NOTHING, _⟩ := id Γ.c_NOTHING
  exact ok_of D (fun_ok (m := m_pieces_of) D.F sc_pieces_of rfl (fun cdv A outer s H E hr => ⟨_, (sss_cons (ss_asg (se_var 0) (sg_tup rfl (sgs_cons (sg_name 1 sc_pieces_of.nd) (sgs_cons (sg_name 2 sc_pieces_of.nd) (sgs_cons (sg_name 3 sc_pieces_of.nd) (sgs_cons (sg_name 4 sc_pieces_of.nd) sgs_nil)))))) (sss_cons (ss_set 5 sc_pieces_of.nd (se_lst sa_nil)) (sss_cons (ss_if (st_cmp (op_neA hr.units) os_ne (se_ix (se_ix (se_var 4) se_int) se_int) (se_gtup Γ.c_NOTHING h_NOTHING) (nomark _)) (sss_one (ss_expr (se_meth PySem.F.plainAttrs_list PySem.F.slot_list_append PySem.F.type_list_append mt_append ms_append (se_var 5) (sa_cons (se_tup (sa_cons (se_gtup Γ.c_NOTHING h_NOTHING) (sa_cons (se_ix (se_ix (se_var 4) se_int) se_int) (sa_cons se_bl (sa_cons se_bl (sa_cons (se_var 1) (sa_cons (se_call o_line_ahead (hr.mono (by decide)) pass_def (sa_cons (se_var 0) sa_nil)) sa_nil))))))) sa_nil)))) sss_nil) (sss_cons (ss_set 6 sc_pieces_of.nd (se_bin op_addA os_add (se_lcT (own := [("place", 7), ("_", 3)]) rfl sc_pieces_of.nd (si_seq (se_slice (se_var 4) (so_some se_int) so_none)) (blkOk_by (N := N_pieces_of) (sc := defScope s_pieces_of) (own := [("place", 7), ("_", 3)]) (by decide +kernel)) (fun _ _ _ _ _ => ⟨_, (sgo_tup rfl (sgos_cons (sgo_name 7 (by decide) sc_pieces_of.nd) (sgos_cons (sgo_name 3 (by decide) sc_pieces_of.nd) (sgos_cons (sgo_name 3 (by decide) sc_pieces_of.nd) sgos_nil))))⟩) (fun _ _ _ _ _ => ⟨_, sts_nil⟩) (fun _ _ _ _ _ => ⟨_, (se_var 7)⟩)) (se_lst (sa_cons (se_var 2) sa_nil)))) (sss_cons (ss_forT own_def rfl (si_zipM rfl Γ.b_zip (sa_cons (se_var 4) (sa_cons (se_var 6) sa_nil))) (sg_tup rfl (sgs_cons (sg_tup rfl (sgs_cons (sg_name 7 sc_pieces_of.nd) (sgs_cons (sg_name 9 sc_pieces_of.nd) (sgs_cons (sg_name 10 sc_pieces_of.nd) sgs_nil)))) (sgs_cons (sg_name 8 sc_pieces_of.nd) sgs_nil))) (sss_cons (ss_expr (se_meth PySem.F.plainAttrs_list PySem.F.slot_list_append PySem.F.type_list_append mt_append ms_append (se_var 5) (sa_cons (se_tup (sa_cons (se_var 7) (sa_cons (se_var 7) (sa_cons se_bl (sa_cons se_bl (sa_cons (se_gtup Γ.c_NOTHING h_NOTHING) (sa_cons (se_var 9) sa_nil))))))) sa_nil))) (sss_one (ss_expr (se_meth PySem.F.plainAttrs_list PySem.F.slot_list_append PySem.F.type_list_append mt_append ms_append (se_var 5) (sa_cons (se_tup (sa_cons (se_var 7) (sa_cons (se_var 8) (sa_cons se_bl (sa_cons se_bl (sa_cons (se_var 1) (sa_cons (se_var 10) sa_nil))))))) sa_nil)))))) (sss_one (ss_ret (se_var 5))))))))⟩) (fun _ _ _ _ => Tells.same _))
abbrev s_turn_between : Stmt := topS 94
abbrev N_turn_between : List Str := ["value", "number", "rise", "turns"]
theorem sc_turn_between : FnScope ["value", "number", "rise", "turns"] ["value", "number", "rise"] (defScope s_turn_between) := ⟨rfl, rfl, rfl, by decide +kernel, rfl, by decide +kernel, by decide +kernel⟩
theorem ok_turn_between (Γ : Gs K mg C) (o_times : Ok P w K mg base T C "times" ["one", "other"] 2 P_times 2) (o_inverse : Ok P w K mg base T C "inverse" ["fraction"] 1 P_inverse 1) (o_minus : Ok P w K mg base T C "minus" ["one", "other"] 2 P_minus 3) {f : Addr} {fd : FuncData} (D : Def K mg "turn_between" s_turn_between ["value", "number", "rise"] f fd) : Ok P w K mg base T C "turn_between" ["value", "number", "rise"] 3 M_turn_between 4 := by
  obtain ⟨a_NOTHING, h_NOTHING, _⟩ := id Γ.c_NOTHING
  exact ok_of D (fun_ok (m := m_turn_between) D.F sc_turn_between rfl (fun cdv A outer s H E hr => ⟨_, (sss_cons (ss_if (st_cmp (op_eqA hr.units) os_eq (se_var 2) (se_gtup Γ.c_NOTHING h_NOTHING) (nomark _)) (sss_one (ss_ret (se_if (st_cmp (op_eqA hr.units) os_eq (se_var 0) (se_var 1) (nomark _)) se_int se_non))) sss_nil) (sss_cons (ss_set 3 sc_turn_between.nd (se_call o_times (hr.mono (by decide)) pass_def (sa_cons (se_call o_minus (hr.mono (by decide)) pass_def (sa_cons (se_var 1) (sa_cons (se_var 0) sa_nil))) (sa_cons (se_call o_inverse (hr.mono (by decide)) pass_def (sa_cons (se_var 2) sa_nil)) sa_nil)))) (sss_one (ss_ret (se_if (st_cmp (op_eqA hr.units) os_eq (se_ix (se_var 3) se_int) se_int (nomark _)) (se_ix (se_var 3) se_int) se_non)))))⟩) (fun _ _ _ _ => Tells.same _))
abbrev s_source_in : Stmt := topS 93
abbrev N_source_in : List Str := ["piece", "number", "wave", "low", "high", "low_in", "high_in", "slope", "a", "_", "period", "rise", "turn", "right", "x", "is_inside"]
theorem sc_source_in : FnScope ["piece", "number", "wave", "low", "high", "low_in", "high_in", "slope", "a", "_", "period", "rise", "turn", "right", "x", "is_inside"] ["piece", "number", "wave"] (defScope s_source_in) := ⟨rfl, rfl, rfl, by decide +kernel, rfl, by decide +kernel, by decide +kernel⟩
theorem ok_source_in (Γ : Gs K mg C) (o_turn_between : Ok P w K mg base T C "turn_between" ["value", "number", "rise"] 3 P_turn_between 4) (o_times : Ok P w K mg base T C "times" ["one", "other"] 2 P_times 2) (o_plus : Ok P w K mg base T C "plus" ["one", "other"] 2 P_plus 2) (o_number_on_line : Ok P w K mg base T C "number_on_line" ["slope", "a", "value"] 3 P_number_on_line 4) (o_is_less : Ok P w K mg base T C "is_less" ["one", "other"] 2 P_is_less 1) (o_single : Ok P w K mg base T C "single" ["number"] 1 P_single 1) {f : Addr} {fd : FuncData} (D : Def K mg "source_in" s_source_in ["piece", "number", "wave"] f fd) : Ok P w K mg base T C "source_in" ["piece", "number", "wave"] 3 M_source_in 5 := by
  obtain ⟨a_NOTHING, h_NOTHING, _⟩ := id Γ.c_NOTHING
  exact ok_of D (fun_ok (m := m_source_in) D.F sc_source_in rfl (fun cdv A outer s H E hr => ⟨_, (sss_cons (ss_asg (se_var 0) (sg_tup rfl (sgs_cons (sg_name 3 sc_source_in.nd) (sgs_cons (sg_name 4 sc_source_in.nd) (sgs_cons (sg_name 5 sc_source_in.nd) (sgs_cons (sg_name 6 sc_source_in.nd) (sgs_cons (sg_name 7 sc_source_in.nd) (sgs_cons (sg_name 8 sc_source_in.nd) sgs_nil)))))))) (sss_cons (ss_asg (se_var 2) (sg_tup rfl (sgs_cons (sg_name 9 sc_source_in.nd) (sgs_cons (sg_name 10 sc_source_in.nd) (sgs_cons (sg_name 11 sc_source_in.nd) (sgs_cons (sg_name 9 sc_source_in.nd) sgs_nil)))))) (sss_cons (ss_if (st_cmp (op_eqA hr.units) os_eq (se_var 7) (se_gtup Γ.c_NOTHING h_NOTHING) (nomark _)) (sss_cons (ss_set 12 sc_source_in.nd (se_call o_turn_between (hr.mono (by decide)) pass_def (sa_cons (se_var 8) (sa_cons (se_var 1) (sa_cons (se_var 11) sa_nil))))) (sss_cons (ss_if (st_isN (se_var 12)) (sss_one (ss_ret se_non)) sss_nil) (sss_cons (ss_set 13 sc_source_in.nd (se_call o_times (hr.mono (by decide)) pass_def (sa_cons (se_tup (sa_cons (se_var 12) (sa_cons se_int sa_nil))) (sa_cons (se_var 10) sa_nil)))) (sss_one (ss_ret (se_tup (sa_cons (se_var 12) (sa_cons (se_tup (sa_cons (se_call o_plus (hr.mono (by decide)) pass_def (sa_cons (se_var 3) (sa_cons (se_var 13) sa_nil))) (sa_cons (se_call o_plus (hr.mono (by decide)) pass_def (sa_cons (se_var 4) (sa_cons (se_var 13) sa_nil))) (sa_cons (se_var 5) (sa_cons (se_var 6) sa_nil))))) sa_nil)))))))) sss_nil) (sss_cons (ss_set 14 sc_source_in.nd (se_call o_number_on_line (hr.mono (by decide)) pass_def (sa_cons (se_var 7) (sa_cons (se_var 8) (sa_cons (se_var 1) sa_nil))))) (sss_cons (ss_set 15 sc_source_in.nd (se_and (se_or (se_call o_is_less (hr.mono (by decide)) pass_def (sa_cons (se_var 3) (sa_cons (se_var 14) sa_nil))) (se_one (se_and (se_var 5) (se_one (se_cmp (op_eqA hr.units) os_eq (se_var 14) (se_var 3) (nomark _)))))) (se_one (se_call o_is_less (hr.mono (by decide)) pass_def (sa_cons (se_var 14) (sa_cons (se_var 4) sa_nil)))))) (sss_one (ss_ret (se_if (st_truth (se_var 15)) (se_tup (sa_cons se_int (sa_cons (se_call o_single (hr.mono (by decide)) pass_def (sa_cons (se_var 14) sa_nil)) sa_nil))) se_non))))))))⟩) (fun _ _ _ _ => Tells.same _))
abbrev s_merged : Stmt := topS 95
abbrev N_merged : List Str := ["stretches", "found", "low", "high", "low_in", "high_in", "_"]
theorem sc_merged : FnScope ["stretches", "found", "low", "high", "low_in", "high_in", "_"] ["stretches"] (defScope s_merged) := ⟨rfl, rfl, rfl, by decide +kernel, rfl, by decide +kernel, by decide +kernel⟩
theorem ok_merged (Γ : Gs K mg C)  {f : Addr} {fd : FuncData} (D : Def K mg "merged" s_merged ["stretches"] f fd) : Ok P w K mg base T C "merged" ["stretches"] 1 M_merged 1 := by
  exact ok_of D (fun_ok (m := m_merged) D.F sc_merged rfl (fun cdv A outer s H E hr => ⟨_, (sss_cons (ss_set 1 sc_merged.nd (se_lst sa_nil)) (sss_cons (ss_forT own_def rfl (si_seq (se_var 0)) (sg_tup rfl (sgs_cons (sg_name 2 sc_merged.nd) (sgs_cons (sg_name 3 sc_merged.nd) (sgs_cons (sg_name 4 sc_merged.nd) (sgs_cons (sg_name 5 sc_merged.nd) sgs_nil))))) (sss_cons (ss_if (SW.pt (sw_and (st_truth (se_var 1)) (sw_and (st_cmp (op_eqA hr.units) os_eq (se_ix (se_ix (se_var 1) (se_un un_neg us_neg se_int)) se_int) (se_var 2) (nomark _)) (sw_and1 (SW.pt (sw_or (st_truth (se_ix (se_ix (se_var 1) (se_un un_neg us_neg se_int)) se_int)) (sw_or1 (st_truth (se_var 4))))))))) (sss_one (ss_asg (se_meth0 PySem.F.plainAttrs_list PySem.F.slot_list_pop PySem.F.type_list_pop mt_pop ms_pop (se_var 1)) (sg_tup rfl (sgs_cons (sg_name 2 sc_merged.nd) (sgs_cons (sg_name 6 sc_merged.nd) (sgs_cons (sg_name 4 sc_merged.nd) (sgs_cons (sg_name 6 sc_merged.nd) sgs_nil))))))) sss_nil) (sss_one (ss_expr (se_meth PySem.F.plainAttrs_list PySem.F.slot_list_append PySem.F.type_list_append mt_append ms_append (se_var 1) (sa_cons (se_tup (sa_cons (se_var 2) (sa_cons (se_var 3) (sa_cons (se_var 4) (sa_cons (se_var 5) sa_nil))))) sa_nil)))))) (sss_one (ss_ret (se_callTy call_tuple_of cs_tuple rfl Γ.b_tuple (by decide +kernel) (sa_cons (se_var 1) sa_nil))))))⟩) (fun _ _ _ _ => Tells.same _))
abbrev s_sources : Stmt := topS 88
abbrev N_sources : List Str := ["chain", "number", "shape", "found", "at", "piece", "source", "turn", "stretch", "_"]
theorem sc_sources : FnScope ["chain", "number", "shape", "found", "at", "piece", "source", "turn", "stretch", "_"] ["chain", "number"] (defScope s_sources) := ⟨rfl, rfl, rfl, by decide +kernel, rfl, by decide +kernel, by decide +kernel⟩
theorem ok_sources (Γ : Gs K mg C) (o_check_chain : Ok P w K mg base T C "check_chain" ["chain"] 1 P_check_chain 5) (o_check_number : Ok P w K mg base T C "check_number" ["number"] 1 P_check_number 3) (o_form : Ok P w K mg base T C "form" ["chain"] 1 P_form 9) (o_is_line : Ok P w K mg base T C "is_line" ["shape"] 1 P_is_line 1) (o_line_sources : Ok P w K mg base T C "line_sources" ["line", "number"] 2 P_line_sources 5) (o_pieces_of : Ok P w K mg base T C "pieces_of" ["wave"] 1 M_pieces_of 5) (o_source_in : Ok P w K mg base T C "source_in" ["piece", "number", "wave"] 3 P_source_in 5) (o_merged : Ok P w K mg base T C "merged" ["stretches"] 1 M_merged 1) {f : Addr} {fd : FuncData} (D : Def K mg "sources" s_sources ["chain", "number"] f fd) : Ok P w K mg base T C "sources" ["chain", "number"] 2 M_sources 10 := by
  exact ok_of D (fun_ok (m := m_sources) D.F sc_sources rfl (fun cdv A outer s H E hr => ⟨_, (sss_cons (ss_expr (se_call o_check_chain (hr.mono (by decide)) pass_def (sa_cons (se_var 0) sa_nil))) (sss_cons (ss_expr (se_call o_check_number (hr.mono (by decide)) pass_def (sa_cons (se_var 1) sa_nil))) (sss_cons (ss_set 2 sc_sources.nd (se_call o_form (hr.mono (by decide)) pass_def (sa_cons (se_var 0) sa_nil))) (sss_cons (ss_if (st_truth (se_call o_is_line (hr.mono (by decide)) pass_def (sa_cons (se_var 2) sa_nil))) (sss_one (ss_ret (se_call o_line_sources (hr.mono (by decide)) pass_def (sa_cons (se_var 2) (sa_cons (se_var 1) sa_nil))))) sss_nil) (sss_cons (ss_set 3 sc_sources.nd (se_lst sa_nil)) (sss_cons (ss_forT own_def rfl (si_enum rfl Γ.b_enumerate (sa_cons (se_call o_pieces_of (hr.mono (by decide)) pass_def (sa_cons (se_var 2) sa_nil)) sa_nil)) (sg_tup rfl (sgs_cons (sg_name 4 sc_sources.nd) (sgs_cons (sg_name 5 sc_sources.nd) sgs_nil))) (sss_cons (ss_set 6 sc_sources.nd (se_call o_source_in (hr.mono (by decide)) pass_def (sa_cons (se_var 5) (sa_cons (se_var 1) (sa_cons (se_var 2) sa_nil))))) (sss_one (ss_if (st_notN (se_var 6)) (sss_cons (ss_asg (se_var 6) (sg_tup rfl (sgs_cons (sg_name 7 sc_sources.nd) (sgs_cons (sg_name 8 sc_sources.nd) sgs_nil)))) (sss_one (ss_expr (se_meth PySem.F.plainAttrs_list PySem.F.slot_list_append PySem.F.type_list_append mt_append ms_append (se_var 3) (sa_cons (se_tup (sa_cons (se_var 7) (sa_cons (se_var 4) (sa_cons (se_var 8) sa_nil)))) sa_nil))))) sss_nil)))) (sss_one (ss_ret (se_call o_merged (hr.mono (by decide)) pass_def (sa_cons (se_lcT (own := [("_", 9), ("stretch", 8)]) rfl sc_sources.nd (si_seq (se_callB Sd.cr_sortedPre cs_sort rfl Γ.b_sorted (by decide +kernel) (sa_cons (se_var 3) sa_nil))) (blkOk_by (N := N_sources) (sc := defScope s_sources) (own := [("_", 9), ("stretch", 8)]) (by decide +kernel)) (fun _ _ _ _ _ => ⟨_, (sgo_tup rfl (sgos_cons (sgo_name 9 (by decide) sc_sources.nd) (sgos_cons (sgo_name 9 (by decide) sc_sources.nd) (sgos_cons (sgo_name 8 (by decide) sc_sources.nd) sgos_nil))))⟩) (fun _ _ _ _ _ => ⟨_, sts_nil⟩) (fun _ _ _ _ _ => ⟨_, (se_var 8)⟩)) sa_nil))))))))))⟩) (fun _ _ _ _ => Tells.same _))
abbrev s__law_low : Stmt := topS 101
abbrev N__law_low : List Str := ["_law_top", "_law_bottom", "_law_one", "_law_other"]
theorem sc__law_low : FnScope ["_law_top", "_law_bottom", "_law_one", "_law_other"] ["_law_top", "_law_bottom"] (defScope s__law_low) := ⟨rfl, rfl, rfl, by decide +kernel, rfl, by decide +kernel, by decide +kernel⟩
theorem ok__law_low (Γ : Gs K mg C)  {f : Addr} {fd : FuncData} (D : Def K mg "_law_low" s__law_low ["_law_top", "_law_bottom"] f fd) : Ok P w K mg base T C "_law_low" ["_law_top", "_law_bottom"] 2 M__law_low 1 := by
  exact ok_of D (fun_ok (m := m__law_low) D.F sc__law_low rfl (fun cdv A outer s H E hr => ⟨_, (sss_cons (ss_par 2 3 rfl sc__law_low.nd (sa_cons (se_callB call_abs cs_abs rfl Γ.b_abs (by decide +kernel) (sa_cons (se_var 0) sa_nil)) (sa_cons (se_callB call_abs cs_abs rfl Γ.b_abs (by decide +kernel) (sa_cons (se_var 1) sa_nil)) sa_nil))) (sss_cons (ss_while fuel__law_low own_def (st_cmp (op_neA hr.units) os_ne (se_var 3) se_int (nomark _)) (sss_one (ss_par 2 3 rfl sc__law_low.nd (sa_cons (se_var 3) (sa_cons (se_bin op_modN os_mod (se_var 2) (se_var 3)) sa_nil))))) (sss_cons (ss_set 2 sc__law_low.nd (se_if (st_cmp op_gt os_cmp (se_var 1) se_int (nomark _)) (se_var 2) (se_un un_neg us_neg (se_var 2)))) (sss_one (ss_ret (se_tup (sa_cons (se_bin op_fdivA os_fdiv (se_var 0) (se_var 2)) (sa_cons (se_bin op_fdivA os_fdiv (se_var 1) (se_var 2)) sa_nil))))))))⟩) (fun _ _ _ _ => Tells.same _))
abbrev s_lines_ahead : Stmt := topS 44
abbrev N_lines_ahead : List Str := ["wave", "_", "line"]
theorem sc_lines_ahead : FnScope ["wave", "_", "line"] ["wave"] (defScope s_lines_ahead) := ⟨rfl, rfl, rfl, by decide +kernel, rfl, by decide +kernel, by decide +kernel⟩
theorem ok_lines_ahead (Γ : Gs K mg C) (o_line_ahead : Ok P w K mg base T C "line_ahead" ["wave"] 1 P_line_ahead 4) {f : Addr} {fd : FuncData} (D : Def K mg "lines_ahead" s_lines_ahead ["wave"] f fd) : Ok P w K mg base T C "lines_ahead" ["wave"] 1 M_lines_ahead 5 := by
  exact ok_of D (fun_ok (m := m_lines_ahead) D.F sc_lines_ahead rfl (fun cdv A outer s H E hr => ⟨_, (sss_one (ss_ret (se_bin op_addA os_add (se_lst (sa_cons (se_call o_line_ahead (hr.mono (by decide)) pass_def (sa_cons (se_var 0) sa_nil)) sa_nil)) (se_lcT (own := [("_", 1), ("line", 2)]) rfl sc_lines_ahead.nd (si_seq (se_slice (se_ix (se_var 0) se_int) so_none (so_some (se_un un_neg us_neg se_int)))) (blkOk_by (N := N_lines_ahead) (sc := defScope s_lines_ahead) (own := [("_", 1), ("line", 2)]) (by decide +kernel)) (fun _ _ _ _ _ => ⟨_, (sgo_tup rfl (sgos_cons (sgo_name 1 (by decide) sc_lines_ahead.nd) (sgos_cons (sgo_name 1 (by decide) sc_lines_ahead.nd) (sgos_cons (sgo_name 2 (by decide) sc_lines_ahead.nd) sgos_nil))))⟩) (fun _ _ _ _ _ => ⟨_, sts_nil⟩) (fun _ _ _ _ _ => ⟨_, (se_var 2)⟩)))))⟩) (fun _ _ _ _ => Tells.same _))
abbrev s_rises : Stmt := topS 66
abbrev N_rises : List Str := ["chain", "shape", "slope", "ahead", "place", "at", "line"]
theorem sc_rises : FnScope ["chain", "shape", "slope", "ahead", "place", "at", "line"] ["chain"] (defScope s_rises) := ⟨rfl, rfl, rfl, by decide +kernel, rfl, by decide +kernel, by decide +kernel⟩
theorem ok_rises (Γ : Gs K mg C) (o_form : Ok P w K mg base T C "form" ["chain"] 1 P_form 9) (o_is_less : Ok P w K mg base T C "is_less" ["one", "other"] 2 P_is_less 1) (o_is_line : Ok P w K mg base T C "is_line" ["shape"] 1 P_is_line 1) (o_lines_ahead : Ok P w K mg base T C "lines_ahead" ["wave"] 1 M_lines_ahead 5) (o_at_line : Ok P w K mg base T C "at_line" ["slope", "number", "line"] 3 P_at_line 3) {f : Addr} {fd : FuncData} (D : Def K mg "rises" s_rises ["chain"] f fd) : Ok P w K mg base T C "rises" ["chain"] 1 M_rises 10 := by
  obtain ⟨a_NOTHING, h_NOTHING, _⟩ := id Γ.c_NOTHING
  exact ok_of D (fun_ok (m := m_rises) D.F sc_rises rfl (fun cdv A outer s H E hr => ⟨_, (sss_cons (ss_set 1 sc_rises.nd (se_call o_form (hr.mono (by decide)) pass_def (sa_cons (se_var 0) sa_nil))) (sss_cons (ss_set 2 sc_rises.nd (se_ix (se_var 1) se_int)) (sss_cons (ss_if (st_truth (se_call o_is_less (hr.mono (by decide)) pass_def (sa_cons (se_var 2) (sa_cons (se_gtup Γ.c_NOTHING h_NOTHING) sa_nil)))) (sss_one (ss_ret se_bl)) sss_nil) (sss_cons (ss_if (st_truth (se_call o_is_line (hr.mono (by decide)) pass_def (sa_cons (se_var 1) sa_nil))) (sss_one (ss_ret se_bl)) sss_nil) (sss_cons (ss_forT own_def rfl (si_zipM rfl Γ.b_zip (sa_cons (se_ix (se_var 1) se_int) (sa_cons (se_call o_lines_ahead (hr.mono (by decide)) pass_def (sa_cons (se_var 1) sa_nil)) sa_nil))) (sg_tup rfl (sgs_cons (sg_tup rfl (sgs_cons (sg_name 4 sc_rises.nd) (sgs_cons (sg_name 5 sc_rises.nd) (sgs_cons (sg_name 6 sc_rises.nd) sgs_nil)))) (sgs_cons (sg_name 3 sc_rises.nd) sgs_nil))) (sss_one (ss_if (SW.pt (sw_or (st_truth (se_call o_is_less (hr.mono (by decide)) pass_def (sa_cons (se_var 5) (sa_cons (se_call o_at_line (hr.mono (by decide)) pass_def (sa_cons (se_var 2) (sa_cons (se_var 4) (sa_cons (se_var 3) sa_nil)))) sa_nil)))) (sw_or1 (st_truth (se_call o_is_less (hr.mono (by decide)) pass_def (sa_cons (se_call o_at_line (hr.mono (by decide)) pass_def (sa_cons (se_var 2) (sa_cons (se_var 4) (sa_cons (se_var 6) sa_nil)))) (sa_cons (se_var 5) sa_nil))))))) (sss_one (ss_ret se_bl)) sss_nil))) (sss_one (ss_ret se_bl)))))))⟩) (fun _ _ _ _ => Tells.same _))
abbrev s_step_value : Stmt := topS 24
abbrev N_step_value : List Str := ["step", "number", "name", "amount", "multiple"]
theorem sc_step_value : FnScope ["step", "number", "name", "amount", "multiple"] ["step", "number"] (defScope s_step_value) := ⟨rfl, rfl, rfl, by decide +kernel, rfl, by decide +kernel, by decide +kernel⟩
theorem ok_step_value (Γ : Gs K mg C) (o_plus : Ok P w K mg base T C "plus" ["one", "other"] 2 P_plus 2) (o_times : Ok P w K mg base T C "times" ["one", "other"] 2 P_times 2) (o_whole_count : Ok P w K mg base T C "whole_count" ["step", "top", "bottom"] 3 P_whole_count 3) (o_minus : Ok P w K mg base T C "minus" ["one", "other"] 2 P_minus 3) {f : Addr} {fd : FuncData} (D : Def K mg "step_value" s_step_value ["step", "number"] f fd) : Ok P w K mg base T C "step_value" ["step", "number"] 2 M_step_value 4 := by
  exact ok_of D (fun_ok (m := m_step_value) D.F sc_step_value rfl (fun cdv A outer s H E hr => ⟨_, (sss_cons (ss_set 2 sc_step_value.nd (se_ix (se_var 0) se_int)) (sss_cons (ss_set 3 sc_step_value.nd (se_ix (se_var 0) se_int)) (sss_cons (ss_if (st_cmp (op_eqA hr.units) os_eq (se_var 2) se_str (nomark _)) (sss_one (ss_ret (se_call o_plus (hr.mono (by decide)) pass_def (sa_cons (se_var 1) (sa_cons (se_var 3) sa_nil))))) sss_nil) (sss_cons (ss_if (st_cmp (op_eqA hr.units) os_eq (se_var 2) se_str (nomark _)) (sss_one (ss_ret (se_call o_times (hr.mono (by decide)) pass_def (sa_cons (se_var 1) (sa_cons (se_var 3) sa_nil))))) sss_nil) (sss_cons (ss_set 4 sc_step_value.nd (se_call o_times (hr.mono (by decide)) pass_def (sa_cons (se_tup (sa_cons (se_call o_whole_count (hr.mono (by decide)) pass_def (sa_cons (se_var 0) (sa_cons (se_bin op_mulA os_mul (se_ix (se_var 1) se_int) (se_ix (se_var 3) se_int)) (sa_cons (se_bin op_mulA os_mul (se_ix (se_var 1) se_int) (se_ix (se_var 3) se_int)) sa_nil)))) (sa_cons se_int sa_nil))) (sa_cons (se_var 3) sa_nil)))) (sss_cons (ss_if (st_cmp (op_eqA hr.units) os_eq (se_var 2) se_str (nomark _)) (sss_one (ss_ret (se_call o_minus (hr.mono (by decide)) pass_def (sa_cons (se_var 1) (sa_cons (se_var 4) sa_nil))))) sss_nil) (sss_one (ss_ret (se_var 4)))))))))⟩) (fun _ _ _ _ => Tells.same _))
abbrev s_value : Stmt := topS 34
abbrev N_value : List Str := ["chain", "number", "result", "step"]
theorem sc_value : FnScope ["chain", "number", "result", "step"] ["chain", "number"] (defScope s_value) := ⟨rfl, rfl, rfl, by decide +kernel, rfl, by decide +kernel, by decide +kernel⟩
theorem ok_value (Γ : Gs K mg C) (o_check_chain : Ok P w K mg base T C "check_chain" ["chain"] 1 P_check_chain 5) (o_check_number : Ok P w K mg base T C "check_number" ["number"] 1 P_check_number 3) (o_step_value : Ok P w K mg base T C "step_value" ["step", "number"] 2 P_step_value 4) {f : Addr} {fd : FuncData} (D : Def K mg "value" s_value ["chain", "number"] f fd) : Ok P w K mg base T C "value" ["chain", "number"] 2 M_value 6 := by
  exact ok_of D (fun_ok (m := m_value) D.F sc_value rfl (fun cdv A outer s H E hr => ⟨_, (sss_cons (ss_expr (se_call o_check_chain (hr.mono (by decide)) pass_def (sa_cons (se_var 0) sa_nil))) (sss_cons (ss_expr (se_call o_check_number (hr.mono (by decide)) pass_def (sa_cons (se_var 1) sa_nil))) (sss_cons (ss_set 2 sc_value.nd (se_var 1)) (sss_cons (ss_forT own_def rfl (si_seq (se_var 0)) (sg_name 3 sc_value.nd) (sss_one (ss_set 2 sc_value.nd (se_call o_step_value (hr.mono (by decide)) pass_def (sa_cons (se_var 3) (sa_cons (se_var 2) sa_nil)))))) (sss_one (ss_ret (se_var 2)))))))⟩) (fun _ _ _ _ => Tells.same _))
abbrev s_keeps_values : Stmt := topS 68
abbrev N_keeps_values : List Str := ["chain", "shape", "_", "period", "rise", "places", "at", "line"]
theorem sc_keeps_values : FnScope ["chain", "shape", "_", "period", "rise", "places", "at", "line"] ["chain", "shape"] (defScope s_keeps_values) := ⟨rfl, rfl, rfl, by decide +kernel, rfl, by decide +kernel, by decide +kernel⟩
theorem ok_keeps_values (Γ : Gs K mg C) (o_is_line : Ok P w K mg base T C "is_line" ["shape"] 1 P_is_line 1) (o_value : Ok P w K mg base T C "value" ["chain", "number"] 2 P_value 6) {f : Addr} {fd : FuncData} (D : Def K mg "keeps_values" s_keeps_values ["chain", "shape"] f fd) : Ok P w K mg base T C "keeps_values" ["chain", "shape"] 2 M_keeps_values 7 := by
  obtain ⟨a_NOTHING, h_NOTHING, _⟩ := id Γ.c_NOTHING
  exact ok_of D (fun_ok (m := m_keeps_values) D.F sc_keeps_values rfl (fun cdv A outer s H E hr => ⟨_, (sss_cons (ss_if (st_truth (se_call o_is_line (hr.mono (by decide)) pass_def (sa_cons (se_var 1) sa_nil))) (sss_one (ss_ret se_bl)) sss_nil) (sss_cons (ss_asg (se_var 1) (sg_tup rfl (sgs_cons (sg_name 2 sc_keeps_values.nd) (sgs_cons (sg_name 3 sc_keeps_values.nd) (sgs_cons (sg_name 4 sc_keeps_values.nd) (sgs_cons (sg_name 5 sc_keeps_values.nd) sgs_nil)))))) (sss_cons (ss_if (st_cmp (op_notInE hr.units) os_memE (se_var 4) (se_tup (sa_cons (se_gtup Γ.c_NOTHING h_NOTHING) (sa_cons (se_var 3) sa_nil))) (by rfl)) (sss_one (ss_ret se_bl)) sss_nil) (sss_cons (ss_forT own_def rfl (si_seq (se_var 5)) (sg_tup rfl (sgs_cons (sg_name 2 sc_keeps_values.nd) (sgs_cons (sg_name 6 sc_keeps_values.nd) (sgs_cons (sg_name 7 sc_keeps_values.nd) sgs_nil)))) (sss_one (ss_if (SW.pt (sw_or (st_cmp (op_neA hr.units) os_ne (se_call o_value (hr.mono (by decide)) pass_def (sa_cons (se_var 0) (sa_cons (se_var 6) sa_nil))) (se_var 6) (nomark _)) (sw_or1 (st_cmp (op_neA hr.units) os_ne (se_call o_value (hr.mono (by decide)) pass_def (sa_cons (se_var 0) (sa_cons (se_var 7) sa_nil))) (se_var 7) (nomark _))))) (sss_one (ss_ret se_bl)) sss_nil))) (sss_one (ss_ret se_bl))))))⟩) (fun _ _ _ _ => Tells.same _))
abbrev s_keeps : Stmt := topS 67
abbrev N_keeps : List Str := ["chain", "shape"]
theorem sc_keeps : FnScope ["chain", "shape"] ["chain"] (defScope s_keeps) := ⟨rfl, rfl, rfl, by decide +kernel, rfl, by decide +kernel, by decide +kernel⟩
theorem ok_keeps (Γ : Gs K mg C) (o_form : Ok P w K mg base T C "form" ["chain"] 1 P_form 9) (o_keeps_values : Ok P w K mg base T C "keeps_values" ["chain", "shape"] 2 P_keeps_values 7) (o_followed : Ok P w K mg base T C "followed" ["shape", "chain"] 2 P_followed 8) {f : Addr} {fd : FuncData} (D : Def K mg "keeps" s_keeps ["chain"] f fd) : Ok P w K mg base T C "keeps" ["chain"] 1 M_keeps 10 := by
  obtain ⟨a_NOTHING, h_NOTHING, _⟩ := id Γ.c_NOTHING
  obtain ⟨a_ONE, h_ONE, _⟩ := id Γ.c_ONE
  exact ok_of D (fun_ok (m := m_keeps) D.F sc_keeps rfl (fun cdv A outer s H E hr => ⟨_, (sss_cons (ss_set 1 sc_keeps.nd (se_call o_form (hr.mono (by decide)) pass_def (sa_cons (se_var 0) sa_nil))) (sss_cons (ss_if (st_cmp (op_eqA hr.units) os_eq (se_ix (se_var 1) se_int) (se_gtup Γ.c_NOTHING h_NOTHING) (nomark _)) (sss_one (ss_ret (se_call o_keeps_values (hr.mono (by decide)) pass_def (sa_cons (se_var 0) (sa_cons (se_var 1) sa_nil))))) sss_nil) (sss_one (ss_ret (se_and (se_cmp (op_eqA hr.units) os_eq (se_ix (se_var 1) se_int) (se_gtup Γ.c_ONE h_ONE) (nomark _)) (se_one (se_cmp (op_eqA hr.units) os_eq (se_call o_followed (hr.mono (by decide)) pass_def (sa_cons (se_var 1) (sa_cons (se_var 0) sa_nil))) (se_var 1) (nomark _))))))))⟩) (fun _ _ _ _ => Tells.same _))
abbrev s_law : Stmt := topS 102
abbrev N_law : List Str := ["_law_script", "_law_dice", "_law_k", "_law_twice", "_law_low_here", "_law_mixed", "_law_cents", "_law_once", "_law_fine", "_law_low_end", "_law_high_end"]
theorem sc_law : FnScope ["_law_script", "_law_dice", "_law_k", "_law_twice", "_law_low_here", "_law_mixed", "_law_cents", "_law_once", "_law_fine", "_law_low_end", "_law_high_end"] ["_law_script"] (defScope s_law) := ⟨rfl, rfl, rfl, by decide +kernel, rfl, by decide +kernel, by decide +kernel⟩
theorem ok_law (Γ : Gs K mg C) (o__law_rounds : Ok P w K mg base [] C "_law_rounds" ["_law_script", "_law_most"] 2 M__law_rounds 2) (o__law_roll : Ok P w K mg base [] C "_law_roll" ["_law_dice", "_law_many"] 2 M__law_roll 2) (o_same : Ok P w K mg base [] C "same" ["chain", "other"] 2 P_same 11) (o_unlike_share : Ok P w K mg base [] C "unlike_share" ["chain", "other"] 2 P_unlike_share 12) (o_greatest_gap : Ok P w K mg base [] C "greatest_gap" ["chain", "other"] 2 P_greatest_gap 12) (o_sources : Ok P w K mg base [] C "sources" ["chain", "number"] 2 P_sources 10) (o__law_low : Ok P w K mg base [] C "_law_low" ["_law_top", "_law_bottom"] 2 P__law_low 1) (o_form : Ok P w K mg base [] C "form" ["chain"] 1 P_form 9) (o_rises : Ok P w K mg base [] C "rises" ["chain"] 1 P_rises 10) (o_keeps : Ok P w K mg base [] C "keeps" ["chain"] 1 P_keeps 10) {f : Addr} {fd : FuncData} (D : Def K mg "law" s_law ["_law_script"] f fd) : FnOk P w K mg base (L2N.CX P w) 13 f fd ["_law_script"] (spM K [] C 1 M_law) := by
  exact fun_ok (m := m_law) D.F sc_law rfl (fun cdv A outer s H E hr => ⟨_, (sss_cons (ss_forT own_def rfl (si_seq (se_call o__law_rounds (hr.mono (by decide)) pass_def (sa_cons (se_var 0) (sa_cons se_int sa_nil)))) (sg_name 1 sc_law.nd) (sss_cons (ss_set 2 sc_law.nd (se_bin op_addA os_add se_int (se_call o__law_roll (hr.mono (by decide)) pass_def (sa_cons (se_var 1) (sa_cons se_int sa_nil))))) (sss_cons (ss_par 7 8 rfl sc_law.nd (sa_cons (se_tup (sa_cons se_str (sa_cons (se_tup (sa_cons se_int (sa_cons se_int sa_nil))) (sa_cons se_str sa_nil)))) (sa_cons (se_tup (sa_cons se_str (sa_cons (se_tup (sa_cons se_int (sa_cons (se_var 2) sa_nil))) (sa_cons se_str sa_nil)))) sa_nil))) (sss_cons (ss_set 3 sc_law.nd (se_tup (sa_cons (se_var 8) (sa_cons (se_var 7) sa_nil)))) (sss_cons (ss_if (st_cmp (op_eqA hr.units) os_eq (se_bin op_modN os_mod (se_var 2) se_int) se_int (nomark _)) (sss_one (ss_if (SW.pt (sw_or (st_not (st_truth (se_call o_same (hr.mono (by decide)) pass_def (sa_cons (se_var 3) (sa_cons (se_tup (sa_cons (se_var 7) sa_nil)) sa_nil))))) (sw_or1 (st_cmp (op_neA hr.units) os_ne (se_call o_unlike_share (hr.mono (by decide)) pass_def (sa_cons (se_var 3) (sa_cons (se_tup (sa_cons (se_var 7) sa_nil)) sa_nil))) (se_tup (sa_cons se_int (sa_cons se_int sa_nil))) (nomark _))))) (sss_one (ss_ret se_bl)) sss_nil)) (sss_cons (ss_if (st_cmp (op_neA hr.units) os_ne (se_call o_unlike_share (hr.mono (by decide)) pass_def (sa_cons (se_var 3) (sa_cons (se_tup (sa_cons (se_var 7) sa_nil)) sa_nil))) (se_tup (sa_cons se_int (sa_cons (se_bin op_mulA os_mul se_int (se_var 2)) sa_nil))) (nomark _)) (sss_one (ss_ret se_bl)) sss_nil) (sss_cons (ss_if (st_cmp (op_neA hr.units) os_ne (se_call o_greatest_gap (hr.mono (by decide)) pass_def (sa_cons (se_var 3) (sa_cons (se_tup (sa_cons (se_var 7) sa_nil)) sa_nil))) (se_tup (sa_cons (se_tup (sa_cons se_int (sa_cons se_int sa_nil))) (sa_cons se_bl sa_nil))) (nomark _)) (sss_one (ss_ret se_bl)) sss_nil) (sss_cons (ss_if (st_cmp (op_neA hr.units) os_ne (se_call o_sources (hr.mono (by decide)) pass_def (sa_cons (se_var 3) (sa_cons (se_tup (sa_cons se_int (sa_cons se_int sa_nil))) sa_nil))) (se_tup (sa_cons (se_tup (sa_cons (se_call o__law_low (hr.mono (by decide)) pass_def (sa_cons (se_bin op_sub os_sub (se_var 2) se_int) (sa_cons (se_bin op_mulA os_mul se_int (se_var 2)) sa_nil))) (sa_cons (se_call o__law_low (hr.mono (by decide)) pass_def (sa_cons (se_bin op_sub os_sub (se_bin op_mulA os_mul se_int (se_var 2)) se_int) (sa_cons (se_bin op_mulA os_mul se_int (se_var 2)) sa_nil))) (sa_cons se_bl (sa_cons se_bl sa_nil))))) sa_nil)) (nomark _)) (sss_one (ss_ret se_bl)) sss_nil) (sss_one (ss_if (st_cmp (op_neA hr.units) os_ne (se_call o_form (hr.mono (by decide)) pass_def (sa_cons (se_var 3) sa_nil)) (se_tup (sa_cons (se_tup (sa_cons se_int (sa_cons se_int sa_nil))) (sa_cons (se_tup (sa_cons se_int (sa_cons se_int sa_nil))) (sa_cons (se_tup (sa_cons se_int (sa_cons se_int sa_nil))) (sa_cons (se_tup (sa_cons (se_tup (sa_cons (se_call o__law_low (hr.mono (by decide)) pass_def (sa_cons (se_bin op_sub os_sub (se_var 2) se_int) (sa_cons (se_bin op_mulA os_mul se_int (se_var 2)) sa_nil))) (sa_cons (se_tup (sa_cons se_int (sa_cons se_int sa_nil))) (sa_cons (se_tup (sa_cons se_int (sa_cons se_int sa_nil))) sa_nil)))) sa_nil)) sa_nil))))) (nomark _)) (sss_one (ss_ret se_bl)) sss_nil)))))) (sss_cons (ss_set 4 sc_law.nd (se_tup (sa_cons (se_tup (sa_cons se_str (sa_cons (se_tup (sa_cons se_int (sa_cons (se_var 2) sa_nil))) (sa_cons se_str sa_nil)))) (sa_cons (se_tup (sa_cons se_str (sa_cons (se_tup (sa_cons se_int (sa_cons se_int sa_nil))) (sa_cons se_str sa_nil)))) sa_nil)))) (sss_cons (ss_if (st_cmp (op_neA hr.units) os_ne (se_call o_unlike_share (hr.mono (by decide)) pass_def (sa_cons (se_var 4) (sa_cons (se_tup (sa_cons (se_tup (sa_cons se_str (sa_cons (se_tup (sa_cons se_int (sa_cons se_int sa_nil))) (sa_cons se_str sa_nil)))) sa_nil)) sa_nil))) (se_if (st_cmp (op_eqA hr.units) os_eq (se_bin op_modN os_mod (se_var 2) se_int) se_int (nomark _)) (se_tup (sa_cons se_int (sa_cons (se_bin op_mulA os_mul se_int (se_var 2)) sa_nil))) (se_tup (sa_cons se_int (sa_cons se_int sa_nil)))) (nomark _)) (sss_one (ss_ret se_bl)) sss_nil) (sss_cons (ss_set 5 sc_law.nd (se_tup (sa_cons (se_tup (sa_cons se_str (sa_cons (se_tup (sa_cons se_int (sa_cons (se_var 2) sa_nil))) (sa_cons se_str sa_nil)))) (sa_cons (se_var 7) sa_nil)))) (sss_cons (ss_par 9 10 rfl sc_law.nd (sa_cons (se_call o__law_low (hr.mono (by decide)) pass_def (sa_cons (se_un un_neg us_neg (se_bin op_addA os_add (se_var 2) se_int)) (sa_cons (se_bin op_mulA os_mul se_int (se_var 2)) sa_nil))) (sa_cons (se_call o__law_low (hr.mono (by decide)) pass_def (sa_cons (se_bin op_sub os_sub (se_var 2) se_int) (sa_cons (se_bin op_mulA os_mul se_int (se_var 2)) sa_nil))) sa_nil))) (sss_cons (ss_if (SW.pt (sw_and (st_cmp (op_eqA hr.units) os_eq (se_bin op_modN os_mod (se_var 2) se_int) se_int (nomark _)) (sw_and1 (st_cmp (op_neA hr.units) os_ne (se_call o_sources (hr.mono (by decide)) pass_def (sa_cons (se_var 5) (sa_cons (se_tup (sa_cons se_int (sa_cons se_int sa_nil))) sa_nil))) (se_tup (sa_cons (se_tup (sa_cons (se_var 9) (sa_cons (se_var 10) (sa_cons se_bl (sa_cons se_bl sa_nil))))) sa_nil)) (nomark _))))) (sss_one (ss_ret se_bl)) sss_nil) (sss_cons (ss_set 6 sc_law.nd (se_tup (sa_cons (se_tup (sa_cons se_str (sa_cons (se_tup (sa_cons se_int (sa_cons se_int sa_nil))) sa_nil))) (sa_cons (se_tup (sa_cons se_str (sa_cons (se_tup (sa_cons se_int (sa_cons se_int sa_nil))) (sa_cons se_str sa_nil)))) (sa_cons (se_tup (sa_cons se_str (sa_cons (se_tup (sa_cons se_int (sa_cons se_int sa_nil))) sa_nil))) (sa_cons (se_var 7) sa_nil)))))) (sss_cons (ss_if (SW.pt (sw_or (st_not (st_truth (se_call o_same (hr.mono (by decide)) pass_def (sa_cons (se_var 6) (sa_cons (se_tup (sa_cons (se_tup (sa_cons se_str (sa_cons (se_tup (sa_cons se_int (sa_cons se_int sa_nil))) (sa_cons se_str sa_nil)))) (sa_cons (se_var 7) sa_nil))) sa_nil))))) (sw_or1 (st_cmp (op_neA hr.units) os_ne (se_call o_unlike_share (hr.mono (by decide)) pass_def (sa_cons (se_var 6) (sa_cons (se_tup (sa_cons (se_var 7) sa_nil)) sa_nil))) (se_tup (sa_cons se_int (sa_cons se_int sa_nil))) (nomark _))))) (sss_one (ss_ret se_bl)) sss_nil) (sss_one (ss_if (SW.pt (sw_or (st_not (st_truth (se_call o_rises (hr.mono (by decide)) pass_def (sa_cons (se_var 3) sa_nil)))) (sw_or (st_not (st_truth (se_call o_keeps (hr.mono (by decide)) pass_def (sa_cons (se_var 3) sa_nil)))) (sw_or1 (st_not (st_truth (se_call o_keeps (hr.mono (by decide)) pass_def (sa_cons (se_var 4) sa_nil)))))))) (sss_one (ss_ret se_bl)) sss_nil)))))))))))))) (sss_one (ss_ret se_bl)))⟩) (fun _ _ _ _ => Tells.same _)
end
end Lw

set_option Elab.async false
namespace Dn
open PySem
theorem s_down_up : (Str.ofString "down" = Str.ofString "up") = False := eq_false (by decide +kernel)
theorem s_down_near : (Str.ofString "down" = Str.ofString "near") = False := eq_false (by decide +kernel)
theorem s_down_add : (Str.ofString "down" = Str.ofString "add") = False := eq_false (by decide +kernel)
theorem s_down_times : (Str.ofString "down" = Str.ofString "times") = False := eq_false (by decide +kernel)
theorem s_down_rest : (Str.ofString "down" = Str.ofString "rest") = False := eq_false (by decide +kernel)
theorem s_down_even : (Str.ofString "down" = Str.ofString "even") = False := eq_false (by decide +kernel)
theorem s_down_odd : (Str.ofString "down" = Str.ofString "odd") = False := eq_false (by decide +kernel)
theorem s_up_down : (Str.ofString "up" = Str.ofString "down") = False := eq_false (by decide +kernel)
theorem s_up_near : (Str.ofString "up" = Str.ofString "near") = False := eq_false (by decide +kernel)
theorem s_up_add : (Str.ofString "up" = Str.ofString "add") = False := eq_false (by decide +kernel)
theorem s_up_times : (Str.ofString "up" = Str.ofString "times") = False := eq_false (by decide +kernel)
theorem s_up_rest : (Str.ofString "up" = Str.ofString "rest") = False := eq_false (by decide +kernel)
theorem s_up_even : (Str.ofString "up" = Str.ofString "even") = False := eq_false (by decide +kernel)
theorem s_up_odd : (Str.ofString "up" = Str.ofString "odd") = False := eq_false (by decide +kernel)
theorem s_near_down : (Str.ofString "near" = Str.ofString "down") = False := eq_false (by decide +kernel)
theorem s_near_up : (Str.ofString "near" = Str.ofString "up") = False := eq_false (by decide +kernel)
theorem s_near_add : (Str.ofString "near" = Str.ofString "add") = False := eq_false (by decide +kernel)
theorem s_near_times : (Str.ofString "near" = Str.ofString "times") = False := eq_false (by decide +kernel)
theorem s_near_rest : (Str.ofString "near" = Str.ofString "rest") = False := eq_false (by decide +kernel)
theorem s_near_even : (Str.ofString "near" = Str.ofString "even") = False := eq_false (by decide +kernel)
theorem s_near_odd : (Str.ofString "near" = Str.ofString "odd") = False := eq_false (by decide +kernel)
theorem s_add_down : (Str.ofString "add" = Str.ofString "down") = False := eq_false (by decide +kernel)
theorem s_add_up : (Str.ofString "add" = Str.ofString "up") = False := eq_false (by decide +kernel)
theorem s_add_near : (Str.ofString "add" = Str.ofString "near") = False := eq_false (by decide +kernel)
theorem s_add_times : (Str.ofString "add" = Str.ofString "times") = False := eq_false (by decide +kernel)
theorem s_add_rest : (Str.ofString "add" = Str.ofString "rest") = False := eq_false (by decide +kernel)
theorem s_add_even : (Str.ofString "add" = Str.ofString "even") = False := eq_false (by decide +kernel)
theorem s_add_odd : (Str.ofString "add" = Str.ofString "odd") = False := eq_false (by decide +kernel)
theorem s_times_down : (Str.ofString "times" = Str.ofString "down") = False := eq_false (by decide +kernel)
theorem s_times_up : (Str.ofString "times" = Str.ofString "up") = False := eq_false (by decide +kernel)
theorem s_times_near : (Str.ofString "times" = Str.ofString "near") = False := eq_false (by decide +kernel)
theorem s_times_add : (Str.ofString "times" = Str.ofString "add") = False := eq_false (by decide +kernel)
theorem s_times_rest : (Str.ofString "times" = Str.ofString "rest") = False := eq_false (by decide +kernel)
theorem s_times_even : (Str.ofString "times" = Str.ofString "even") = False := eq_false (by decide +kernel)
theorem s_times_odd : (Str.ofString "times" = Str.ofString "odd") = False := eq_false (by decide +kernel)
theorem s_rest_down : (Str.ofString "rest" = Str.ofString "down") = False := eq_false (by decide +kernel)
theorem s_rest_up : (Str.ofString "rest" = Str.ofString "up") = False := eq_false (by decide +kernel)
theorem s_rest_near : (Str.ofString "rest" = Str.ofString "near") = False := eq_false (by decide +kernel)
theorem s_rest_add : (Str.ofString "rest" = Str.ofString "add") = False := eq_false (by decide +kernel)
theorem s_rest_times : (Str.ofString "rest" = Str.ofString "times") = False := eq_false (by decide +kernel)
theorem s_rest_even : (Str.ofString "rest" = Str.ofString "even") = False := eq_false (by decide +kernel)
theorem s_rest_odd : (Str.ofString "rest" = Str.ofString "odd") = False := eq_false (by decide +kernel)
theorem s_even_down : (Str.ofString "even" = Str.ofString "down") = False := eq_false (by decide +kernel)
theorem s_even_up : (Str.ofString "even" = Str.ofString "up") = False := eq_false (by decide +kernel)
theorem s_even_near : (Str.ofString "even" = Str.ofString "near") = False := eq_false (by decide +kernel)
theorem s_even_add : (Str.ofString "even" = Str.ofString "add") = False := eq_false (by decide +kernel)
theorem s_even_times : (Str.ofString "even" = Str.ofString "times") = False := eq_false (by decide +kernel)
theorem s_even_rest : (Str.ofString "even" = Str.ofString "rest") = False := eq_false (by decide +kernel)
theorem s_even_odd : (Str.ofString "even" = Str.ofString "odd") = False := eq_false (by decide +kernel)
theorem s_odd_down : (Str.ofString "odd" = Str.ofString "down") = False := eq_false (by decide +kernel)
theorem s_odd_up : (Str.ofString "odd" = Str.ofString "up") = False := eq_false (by decide +kernel)
theorem s_odd_near : (Str.ofString "odd" = Str.ofString "near") = False := eq_false (by decide +kernel)
theorem s_odd_add : (Str.ofString "odd" = Str.ofString "add") = False := eq_false (by decide +kernel)
theorem s_odd_times : (Str.ofString "odd" = Str.ofString "times") = False := eq_false (by decide +kernel)
theorem s_odd_rest : (Str.ofString "odd" = Str.ofString "rest") = False := eq_false (by decide +kernel)
theorem s_odd_even : (Str.ofString "odd" = Str.ofString "even") = False := eq_false (by decide +kernel)
end Dn

set_option Elab.async false
set_option linter.all false
set_option maxRecDepth 100000
set_option maxHeartbeats 4000000
/-! Sizes, dice, rounds. -/
namespace Pk
open PySem PySem.Spec PyProof.Rows L2 Dn Dt Hh
/-- sizes -/
def B (m : Nat) (x : Int) : Prop := x.natAbs < 2 ^ m
theorem B.mono {m n : Nat} {x : Int} (h : B m x) (k : m ≤ n) : B n x := Nat.lt_of_lt_of_le h (Nat.pow_le_pow_right (by decide) k)
theorem B.mul {m n : Nat} {x y : Int} (h : B m x) (k : B n y) : B (m + n) (x * y) := by
  unfold B at *
  rw [Int.natAbs_mul, Nat.pow_add]
  exact Nat.mul_lt_mul'' h k
theorem B.add {m : Nat} {x y : Int} (h : B m x) (k : B m y) : B (m + 1) (x + y) := by
  unfold B at *
  have := Int.natAbs_add_le x y
  rw [Nat.pow_succ]
  omega
theorem B.neg {m : Nat} {x : Int} (h : B m x) : B m (-x) := by unfold B at *; rw [Int.natAbs_neg]; exact h
theorem B.sub {m : Nat} {x y : Int} (h : B m x) (k : B m y) : B (m + 1) (x - y) := by rw [Int.sub_eq_add_neg]; exact h.add k.neg
theorem B.div {m : Nat} {x : Int} (y : Int) (h : B m x) : B m (x / y) := Nat.lt_of_le_of_lt (Int.natAbs_ediv_le_natAbs x y) h
theorem B.log {m : Nat} {x : Int} (h : B m x) (hm : 0 < m) : x.natAbs.log2 < m := by
  by_cases z : x.natAbs = 0
  · rw [z]
    exact hm
  · exact (Nat.log2_lt z).mpr h
theorem B.mok {m n : Nat} {x y : Int} (h : B m x) (k : B n y) (hs : m + n ≤ 9000 := by decide) (hm : 0 < m := by decide) (hn : 0 < n := by decide) : mulOk x y = true := by
  unfold mulOk
  have := h.log hm
  have := k.log hn
  exact decide_eq_true (.inr (.inr (by omega)))
theorem B.dok {m : Nat} {y : Int} (h : B m y) (hp : 0 < y) (hs : m ≤ 9000 := by decide) (hm : 0 < m := by decide) : 0 < y ∧ y.natAbs.log2 < 9000 := ⟨hp, Nat.lt_of_lt_of_le (h.log hm) hs⟩
def F (a b : Int) : D := .tup [.int a, .int b]
section
variable {a b c d : Int} {m : Nat}
theorem mulD_B {x y : Int} {n : Nat} (h : B m x) (k : B n y) (hs : m + n ≤ 9000 := by omega) (hm : 0 < m := by omega) (hn : 0 < n := by omega) (st : Sto) : mulD (.int x) (.int y) st = .ok (.int (x * y)) st := d_mul_int (h.mok k hs hm hn) st
end
theorem B1 {m : Nat} (h : 0 < m) : B m (1 : Int) := by unfold B; exact Nat.one_lt_two_pow (by omega)
/-! ### dice: lists of two ints -/
def IsDice (st : Sto) (d : Nat) : Prop := ∃ a b : Int, st[d]? = some (.lst [.int a, .int b])
/-- lists of two ints may have changed, others not -/
def Upd (st st' : Sto) : Prop := st.length ≤ st'.length ∧ ∀ (i : Nat) (c : Cell), st[i]? = some c → ((∃ a b : Int, c = .lst [.int a, .int b]) ∧ IsDice st' i) ∨ st'[i]? = some c
theorem Upd.refl (st : Sto) : Upd st st := ⟨Nat.le_refl _, fun i c h => .inr h⟩
theorem IsDice.upd {st st' : Sto} {d : Nat} (h : IsDice st d) (u : Upd st st') : IsDice st' d := by
  obtain ⟨a, b, e⟩ := h
  rcases u.2 d _ e with ⟨_, z⟩ | z
  · exact z
  · exact ⟨a, b, z⟩
theorem Upd.trans {st s1 s2 : Sto} (u : Upd st s1) (v : Upd s1 s2) : Upd st s2 := ⟨Nat.le_trans u.1 v.1, fun i c h => by
  rcases u.2 i c h with ⟨e, z⟩ | z
  · exact .inl ⟨e, z.upd v⟩
  · exact v.2 i c z⟩
theorem Upd.app (st l : Sto) : Upd st (st ++ l) := ⟨by rw [List.length_append]; omega, fun i c h => .inr (by
  rw [List.getElem?_append_left (List.getElem?_eq_some_iff.mp h).1]
  exact h)⟩
theorem Upd.keep {st st' : Sto} {i : Nat} {c : Cell} (u : Upd st st') (h : st[i]? = some c) (n : ∀ a b : Int, c ≠ .lst [.int a, .int b]) : st'[i]? = some c := by
  rcases u.2 i c h with ⟨⟨a, b, e⟩, _⟩ | z
  · exact absurd e (n a b)
  · exact z
theorem Upd.setD {st : Sto} {d : Nat} (h : IsDice st d) (a b : Int) : Upd st (st.set d (.lst [.int a, .int b])) := ⟨by rw [List.length_set]; omega, fun i c e => by
  by_cases q : i = d
  · subst q
    obtain ⟨a0, b0, e0⟩ := h
    rw [e0] at e
    refine .inl ⟨⟨a0, b0, (Option.some.inj e).symm⟩, a, b, List.getElem?_set_self (List.getElem?_eq_some_iff.mp e0).1⟩
  · exact .inr (by rw [List.getElem?_set_ne (Ne.symm q)]; exact e)⟩
/-- a place that the older store has not may be written -/
theorem Upd.fresh {st st' : Sto} {loc : Nat} {c : Cell} (u : Upd st st') (h : st.length ≤ loc) : Upd st (st'.set loc c) := ⟨by rw [List.length_set]; exact u.1, fun i x e => by
  have hi := (List.getElem?_eq_some_iff.mp e).1
  have q : loc ≠ i := by omega
  rcases u.2 i x e with ⟨z, a, b, y⟩ | y
  · exact .inl ⟨z, a, b, by rw [List.getElem?_set_ne q]; exact y⟩
  · exact .inr (by rw [List.getElem?_set_ne q]; exact y)⟩
theorem atI_mem {α : Type} {xs : List α} {v : Int} (h0 : 0 ≤ v) (h : v < (xs.length : Int)) : ∃ x, x ∈ xs ∧ L2.atI xs v = some x := by
  obtain ⟨k, rfl⟩ := Int.eq_ofNat_of_zero_le h0
  have hk : k < xs.length := by omega
  exact ⟨xs[k], List.getElem_mem hk, by rw [d_atI, List.getElem?_eq_getElem hk]⟩
theorem mulOk_smallR {i j : Int} (h1 : -(2 ^ 64) < j) (h2 : j < 2 ^ 64) : mulOk i j = true := decide_eq_true (.inr (.inl ⟨h1, h2⟩))
theorem mod_B {m : Nat} {x y : Int} (hy : 0 < y) (h : B m y) : B m (x % y) := by
  have h0 := Int.emod_nonneg x (by omega : y ≠ 0)
  have h1 := Int.emod_lt_of_pos x hy
  unfold B at *
  omega
theorem run_drawn (c k : Int) (st : Sto) : ∃ r, M__law_drawn [.int c, .int k] st = .ok (.int r) st := by
  have k1 := d_mul_int (i := c) (j := 6364136223846793005) (mulOk_smallR (by decide) (by decide))
  have k2 := d_mul_int (i := k + 1) (j := 1442695040888963407) (mulOk_smallR (by decide) (by decide))
  have k3 : ∀ x st, modD (.int x) (.int 340282366920938463463374607431768211507) st = .ok (.int (x % 340282366920938463463374607431768211507)) st := fun x st => d_mod_int (by decide) st
  have k4 : ∀ x st, modD (.int x) (.int 340282366920938463463374607431768211297) st = .ok (.int (x % 340282366920938463463374607431768211297)) st := fun x st => d_mod_int (by decide) st
  have k5 : ∀ x st, modD (.int x) (.int 18446744073709551557) st = .ok (.int (x % 18446744073709551557)) st := fun x st => d_mod_int (by decide) st
  have k6 : ∀ x st, fdivD (.int x) (.int 18446744073709551557) st = .ok (.int (x / 18446744073709551557)) st := fun x st => d_fdiv_int ⟨by decide, by decide +kernel⟩ st
  generalize hm : (c * 6364136223846793005 + (k + 1) * 1442695040888963407) % 340282366920938463463374607431768211507 = m1
  have b1 : B 129 m1 := by
    rw [← hm]
    exact mod_B (by decide) (by unfold B; decide +kernel)
  have k7 := mulD_B b1 b1
  generalize hn : (m1 * m1) % 340282366920938463463374607431768211297 = m2
  have b2 : B 129 m2 := by
    rw [← hn]
    exact mod_B (by decide) (by unfold B; decide +kernel)
  have b3 : B 130 (m2 % 18446744073709551557 + 1) := ((mod_B (by decide) (by unfold B; decide +kernel)).add (B1 (by decide) : B 129 1)).mono (by decide)
  have b4 : B 130 (m2 / 18446744073709551557 + 1) := ((b2.div _).add (B1 (by decide))).mono (by decide)
  have k8 := mulD_B b3 b4
  have k9 := mulD_B (b3.mul b4) b2
  refine ⟨(m2 % 18446744073709551557 + 1) * (m2 / 18446744073709551557 + 1) * m2 % 340282366920938463463374607431768211507, ?_⟩
  · simp only [M__law_drawn, m__law_drawn, sSeq, sAsg, sIf, sRet, sRetN, sNext, sDrop, sPar, sNo, sRaise, sBreak, sCont, dVar, dC, dBin, dUn, dCall, aNil, aCons, dTup, dLst, tVal, tAndD, tOrD, tNotD, dAndV, dOrV, dNotV, dIf, dChain, tTru, truthD, mName, mNil, mCons, mTup, mSub, dFn, O.res, R.bind_ok, R.bind_er, R.bind_no, R.toS_ok, R.toS_er, R.toS_no, O.thn_nx, O.thn_rt, O.thn_er, O.thn_bk, O.thn_ct, O.thn_no, startE, List.map, List.length_cons, List.length_nil, List.replicate, List.cons_append, List.nil_append, List.append_assoc, List.getElem?_cons_zero, List.getElem?_cons_succ, List.set, List.length_append, at_k, at_0, seq_k, seq_0, seq_c0, seq_cs, d_eq_int, d_ne_int, d_eq_str, d_ne_str, d_eq_bl, d_add_int, d_sub_int, d_neg_int, d_cmp_int, d_ix_tup, d_ix_kl, d_ix_ref, atI_0, atI_1, atI_2, Nat.zero_add, Nat.add_zero, Nat.add_assoc, Nat.reduceAdd, Nat.reduceLeDiff, Nat.reduceSub, Nat.reduceLT, ↓reduceIte, Bool.not_true, Bool.not_false, Bool.false_eq_true, nc_0, nc_1, nc_2, nc_3, nc_4, k1, k2, k3, hm, k7, k4, hn, k5, k6, k8, k9]
theorem pow18 (st : Sto) : powD (.int 10) (.int 18) st = .ok (.int 1000000000000000000) st := by
  simp only [powD]
  rfl
theorem run_roll {st : Sto} {d : Nat} (hd : IsDice st d) {many : Int} (h0 : 0 < many) (h1 : many < 18446744073709551616) : ∃ v st', M__law_roll [.ref d, .int many] st = .ok (.int v) st' ∧ 0 ≤ v ∧ v < many ∧ Upd st st' ∧ IsDice st' d := by
  obtain ⟨a, b, e⟩ := id hd
  have es : Sto.seq st d = some [.int a, .int b] := seq_at e
  have hlt := (List.getElem?_eq_some_iff.mp e).1
  have kf := d_fdiv_int (i := a) (j := many) ⟨h0, by
    have : B 64 many := by unfold B; omega
    exact Nat.lt_of_lt_of_le (this.log (by decide)) (by decide)⟩
  have km := d_mod_int (i := a) h0
  have s0 : ∀ v : Int, setD (.ref d) (.int 0) (.int v) st = .ok () (st.set d (.lst [.int v, .int b])) := fun v => by simp only [setD, e]; rfl
  have s1 : ∀ v : Int, setD (.ref d) (.int 1) (.int v) st = .ok () (st.set d (.lst [.int a, .int v])) := fun v => by simp only [setD, e]; rfl
  by_cases hb : (1000000000000000000 : Int) ≤ a
  · have hb' : decide ((1000000000000000000 : Int) ≤ a) = true := decide_eq_true hb
    refine ⟨a % many, st.set d (.lst [.int (a / many), .int b]), ?_, Int.emod_nonneg _ (by omega), Int.emod_lt_of_pos _ h0, Upd.setD hd _ _, _, _, List.getElem?_set_self hlt⟩
    simp only [M__law_roll, m__law_roll, sSeq, sAsg, sIf, sRet, sRetN, sNext, sDrop, sPar, sNo, sRaise, sBreak, sCont, dVar, dC, dBin, dUn, dCall, aNil, aCons, dTup, dLst, tVal, tAndD, tOrD, tNotD, dAndV, dOrV, dNotV, dIf, dChain, tTru, truthD, mName, mNil, mCons, mTup, mSub, dFn, O.res, R.bind_ok, R.bind_er, R.bind_no, R.toS_ok, R.toS_er, R.toS_no, O.thn_nx, O.thn_rt, O.thn_er, O.thn_bk, O.thn_ct, O.thn_no, startE, List.map, List.length_cons, List.length_nil, List.replicate, List.cons_append, List.nil_append, List.append_assoc, List.getElem?_cons_zero, List.getElem?_cons_succ, List.set, List.length_append, at_k, at_0, seq_k, seq_0, seq_c0, seq_cs, d_eq_int, d_ne_int, d_eq_str, d_ne_str, d_eq_bl, d_add_int, d_sub_int, d_neg_int, d_cmp_int, d_ix_tup, d_ix_kl, d_ix_ref, atI_0, atI_1, atI_2, Nat.zero_add, Nat.add_zero, Nat.add_assoc, Nat.reduceAdd, Nat.reduceLeDiff, Nat.reduceSub, Nat.reduceLT, ↓reduceIte, Bool.not_true, Bool.not_false, Bool.false_eq_true, nc_0, nc_1, nc_2, nc_3, nc_4, es, pow18, hb', km, kf, s0]
  · have hb' : decide ((1000000000000000000 : Int) ≤ a) = false := decide_eq_false hb
    have es' : Sto.seq (st.set d (.lst [.int a, .int (b + 1)])) d = some [.int a, .int (b + 1)] := seq_at (List.getElem?_set_self hlt)
    obtain ⟨r, kr⟩ := run_drawn a (b + 1) (st.set d (.lst [.int a, .int (b + 1)]))
    have k8 : ∀ x st, fdivD (.int x) (.int 8) st = .ok (.int (x / 8)) st := fun x st => d_fdiv_int ⟨by decide, by decide +kernel⟩ st
    have km2 := d_mod_int (i := r / 8) h0
    refine ⟨r / 8 % many, st.set d (.lst [.int a, .int (b + 1)]), ?_, Int.emod_nonneg _ (by omega), Int.emod_lt_of_pos _ h0, Upd.setD hd _ _, _, _, List.getElem?_set_self hlt⟩
    simp only [M__law_roll, m__law_roll, sSeq, sAsg, sIf, sRet, sRetN, sNext, sDrop, sPar, sNo, sRaise, sBreak, sCont, dVar, dC, dBin, dUn, dCall, aNil, aCons, dTup, dLst, tVal, tAndD, tOrD, tNotD, dAndV, dOrV, dNotV, dIf, dChain, tTru, truthD, mName, mNil, mCons, mTup, mSub, dFn, O.res, R.bind_ok, R.bind_er, R.bind_no, R.toS_ok, R.toS_er, R.toS_no, O.thn_nx, O.thn_rt, O.thn_er, O.thn_bk, O.thn_ct, O.thn_no, startE, List.map, List.length_cons, List.length_nil, List.replicate, List.cons_append, List.nil_append, List.append_assoc, List.getElem?_cons_zero, List.getElem?_cons_succ, List.set, List.length_append, at_k, at_0, seq_k, seq_0, seq_c0, seq_cs, d_eq_int, d_ne_int, d_eq_str, d_ne_str, d_eq_bl, d_add_int, d_sub_int, d_neg_int, d_cmp_int, d_ix_tup, d_ix_kl, d_ix_ref, atI_0, atI_1, atI_2, Nat.zero_add, Nat.add_zero, Nat.add_assoc, Nat.reduceAdd, Nat.reduceLeDiff, Nat.reduceSub, Nat.reduceLT, ↓reduceIte, Bool.not_true, Bool.not_false, Bool.false_eq_true, nc_0, nc_1, nc_2, nc_3, nc_4, es, pow18, hb', s1, es', kr, k8, km2]
def freeL : List D := [F 3 1, F 1 10, F 2 3, F 5 2]
def fewL : List D := [F 1 1, F 1 2, F 2 1, F 4 1, F 1 4]
/-! ### the cells -/
theorem pyAll_ints : ∀ ns : List Int, D.pyAll (ns.map .int) = some (ns.map PyData.int)
  | [] => rfl
  | n :: ns => by
    rw [List.map_cons, List.map_cons]
    unfold D.pyAll D.pyN
    rw [pyAll_ints ns]
theorem canInts : ∀ ns : List Int, PyData.canLayAll0 (ns.map PyData.int) = true
  | [] => rfl
  | n :: ns => by
    rw [List.map_cons]
    unfold PyData.canLayAll0 PyData.canLay0
    rw [canInts ns]
    rfl
theorem depthInts : ∀ ns : List Int, PyData.depthAll (ns.map PyData.int) ≤ 1
  | [] => by decide
  | n :: ns => by
    rw [List.map_cons]
    unfold PyData.depthAll PyData.depth
    have := depthInts ns
    omega
theorem shInts (ns : List Int) : SeqAt.shaped (.list (ns.map PyData.int)) = true := by
  unfold SeqAt.shaped PyData.canLay0 PyData.depth
  rw [canInts, Bool.true_and]
  have := depthInts ns
  exact decide_eq_true (by omega)
theorem run_cell (ns : List Int) (k : Int) (hl : ns.length ≤ 63) (st : Sto) : ∃ z : Int, M__law_cell [.kl (ns.map .int), .int k] st = .ok (.int z) (st ++ [.lst []]) := by
  have k1 := d_mul_int (i := k) (j := 7919) (mulOk_smallR (by decide) (by decide))
  have sh := shInts ns
  have sh0 : SeqAt.shaped (.list []) = true := shInts []
  have eq : eqD (.kl (ns.map .int)) (.ref st.length) (st ++ [.lst []]) = .ok (.bl (PyData.eqv (.list (ns.map PyData.int)) (.list []))) (st ++ [.lst []]) := by
    simp only [eqD, eqvD, scalD, D.py, D.pyN, pyAll_ints, Option.map_some, seq_0, seq_c0, D.pyAll, sh, sh0, and_self, ↓reduceIte]
  cases ns with
  | nil =>
    have e : PyData.eqv (.list (([] : List Int).map PyData.int)) (.list []) = true := by simp [PyData.eqv, PyData.eqvAll]
    refine ⟨k * 7919, ?_⟩
    rw [e] at eq
    simp only [List.map] at eq
    simp only [M__law_cell, m__law_cell, sSeq, sAsg, sIf, sRet, sRetN, sNext, sDrop, sPar, sNo, sRaise, sBreak, sCont, dVar, dC, dBin, dUn, dCall, aNil, aCons, dTup, dLst, tVal, tAndD, tOrD, tNotD, dAndV, dOrV, dNotV, dIf, dChain, tTru, truthD, mName, mNil, mCons, mTup, mSub, dFn, O.res, R.bind_ok, R.bind_er, R.bind_no, R.toS_ok, R.toS_er, R.toS_no, O.thn_nx, O.thn_rt, O.thn_er, O.thn_bk, O.thn_ct, O.thn_no, startE, List.map, List.length_cons, List.length_nil, List.replicate, List.cons_append, List.nil_append, List.append_assoc, List.getElem?_cons_zero, List.getElem?_cons_succ, List.set, List.length_append, at_k, at_0, seq_k, seq_0, seq_c0, seq_cs, d_eq_int, d_ne_int, d_eq_str, d_ne_str, d_eq_bl, d_add_int, d_sub_int, d_neg_int, d_cmp_int, d_ix_tup, d_ix_kl, d_ix_ref, atI_0, atI_1, atI_2, Nat.zero_add, Nat.add_zero, Nat.add_assoc, Nat.reduceAdd, Nat.reduceLeDiff, Nat.reduceSub, Nat.reduceLT, ↓reduceIte, Bool.not_true, Bool.not_false, Bool.false_eq_true, nc_0, nc_1, nc_2, nc_3, nc_4, eq, k1]
  | cons n r =>
    have e : PyData.eqv (.list ((n :: r).map PyData.int)) (.list []) = false := by simp [PyData.eqv, PyData.eqvAll]
    rw [e] at eq
    obtain ⟨L, eL⟩ : ∃ L : Int, L = (((n :: r).map D.int).length : Int) := ⟨_, rfl⟩
    have hp : (0 : Int) < L := by rw [eL]; rw [List.length_map, List.length_cons]; omega
    have hb : B 10 L := by
      rw [eL]
      unfold B
      rw [List.length_map, Int.natAbs_natCast]
      have : (n :: r).length ≤ 63 := hl
      omega
    have km := d_mod_int (i := k) hp
    have kf := d_fdiv_int (i := k) (hb.dok hp)
    have km2 : ∀ x st, mulD (.int x) (.int 104729) st = .ok (.int (x * 104729)) st := fun x st => d_mul_int (mulOk_smallR (by decide) (by decide)) st
    obtain ⟨x, hx, ex⟩ := atI_mem (xs := (n :: r).map D.int) (v := k % L) (Int.emod_nonneg _ (by omega)) (by have := Int.emod_lt_of_pos k hp; omega)
    obtain ⟨z, _, rfl⟩ := List.mem_map.mp hx
    refine ⟨z + k / L * 104729, ?_⟩
    have ln : lenD [.kl ((n :: r).map .int)] (st ++ [.lst []]) = .ok (.int L) (st ++ [.lst []]) := by simp only [lenD, D.items, eL]
    clear hb
    generalize (n :: r).map D.int = l at *
    simp only [M__law_cell, m__law_cell, sSeq, sAsg, sIf, sRet, sRetN, sNext, sDrop, sPar, sNo, sRaise, sBreak, sCont, dVar, dC, dBin, dUn, dCall, aNil, aCons, dTup, dLst, tVal, tAndD, tOrD, tNotD, dAndV, dOrV, dNotV, dIf, dChain, tTru, truthD, mName, mNil, mCons, mTup, mSub, dFn, O.res, R.bind_ok, R.bind_er, R.bind_no, R.toS_ok, R.toS_er, R.toS_no, O.thn_nx, O.thn_rt, O.thn_er, O.thn_bk, O.thn_ct, O.thn_no, startE, List.map, List.length_cons, List.length_nil, List.replicate, List.cons_append, List.nil_append, List.append_assoc, List.getElem?_cons_zero, List.getElem?_cons_succ, List.set, List.length_append, at_k, at_0, seq_k, seq_0, seq_c0, seq_cs, d_eq_int, d_ne_int, d_eq_str, d_ne_str, d_eq_bl, d_add_int, d_sub_int, d_neg_int, d_cmp_int, d_ix_tup, d_ix_kl, d_ix_ref, atI_0, atI_1, atI_2, Nat.zero_add, Nat.add_zero, Nat.add_assoc, Nat.reduceAdd, Nat.reduceLeDiff, Nat.reduceSub, Nat.reduceLT, ↓reduceIte, Bool.not_true, Bool.not_false, Bool.false_eq_true, nc_0, nc_1, nc_2, nc_3, nc_4, eq, ln, km, kf, km2, ex]
/-- the rounds' dice -/
theorem lc_rounds (ns : List Int) (hl : ns.length ≤ 63) (m : Nat) (hm : m ≤ 100) : ∀ (n i : Nat) (acc : List Nat) (st : Sto), i + n = m → acc.length ≤ i → (∀ r ∈ acc, IsDice st r ∧ r ≠ 0) → st[0]? = some (.lst (acc.map .ref)) →
    ∃ (rs : List Nat) (st' : Sto), lcGo (rngFeed 0 m) [2] (mName 2) tYesD (dLst (aCons (dCall (dFn 2 M__law_cell) (aCons (dVar 0) (aCons (dVar 2) aNil))) (aCons (dC (.int 0)) aNil))) 0 n i [some (.kl (ns.map .int)), some (.int 4), none] st = .ok (.ref 0) st' ∧
      (∀ r ∈ rs, IsDice st' r) ∧ st'[0]? = some (.lst (rs.map .ref)) := by
  intro n
  induction n with
  | zero =>
    intro i acc st hi ha hd hc
    have e : ∀ st, rngFeed 0 m i st = some none := fun st => by
      unfold rngFeed
      rw [if_neg (by omega)]
    refine ⟨acc, st, ?_, fun r hr => (hd r hr).1, hc⟩
    simp only [lcGo, e]
  | succ n ih =>
    intro i acc st hi ha hd hc
    have e : ∀ st, rngFeed 0 m i st = some (some (.int (i : Int))) := fun st => by
      unfold rngFeed
      rw [if_pos (by omega), Int.zero_add]
    obtain ⟨z, k⟩ := run_cell ns (i : Int) hl st
    have h0 : 0 < st.length := (List.getElem?_eq_some_iff.mp hc).1
    have g0 : ((st ++ [Cell.lst []]) ++ [Cell.lst [.int z, .int 0]])[0]? = some (.lst (acc.map .ref)) := by
      rw [List.append_assoc, List.getElem?_append_left h0]
      exact hc
    have hz : (acc.map D.ref).length < 100000 := by rw [List.length_map]; omega
    have hlen : (st ++ [Cell.lst []]).length = st.length + 1 := by rw [List.length_append]; rfl
    obtain ⟨rs, st', k', e1, e2⟩ := ih (i + 1) (acc ++ [st.length + 1]) (((st ++ [Cell.lst []]) ++ [Cell.lst [.int z, .int 0]]).set 0 (.lst ((acc ++ [st.length + 1]).map .ref))) (by omega) (by rw [List.length_append, List.length_singleton]; omega)
      (fun r hr => by
        rcases List.mem_append.mp hr with h | h
        · obtain ⟨⟨a, b, q⟩, hne⟩ := hd r h
          refine ⟨⟨a, b, ?_⟩, hne⟩
          rw [List.getElem?_set_ne (Ne.symm hne), List.append_assoc, List.getElem?_append_left (List.getElem?_eq_some_iff.mp q).1]
          exact q
        · rw [List.mem_singleton.mp h]
          refine ⟨⟨z, 0, ?_⟩, by omega⟩
          rw [List.getElem?_set_ne (by omega), ← hlen, at_0]
          rfl)
      (List.getElem?_set_self (by rw [List.length_append, List.length_append]; omega))
    refine ⟨rs, st', ?_, e1, e2⟩
    rw [← k', List.map_append, List.map_singleton]
    simp only [lcGo, e, mName, List.set, R.noEr_ok, R.bind_ok, tYesD, ↓reduceIte, dLst, dCall, dC, aCons, aNil, dVar, List.getElem?_cons_succ, List.getElem?_cons_zero, dFn, List.length_cons, List.length_nil, Nat.zero_add, Nat.reduceAdd, k, Nat.reduceLeDiff, g0, hz, hlen]
theorem run_rounds (ns : List Int) (hl : ns.length ≤ 63) : ∃ (rs : List Nat) (st' : Sto), M__law_rounds [.kl (ns.map .int), .int 4] [] = .ok (.ref 0) st' ∧ (∀ r ∈ rs, IsDice st' r) ∧ st'[0]? = some (.lst (rs.map .ref)) := by
  obtain ⟨L, eL⟩ : ∃ L : Int, L = ((ns.length : Nat) : Int) := ⟨_, rfl⟩
  have ln : lenD [.kl (ns.map .int)] [] = .ok (.int L) [] := by
    simp only [lenD, D.items, List.length_map, eL]
  have hL : 0 ≤ L ∧ L ≤ 63 := by omega
  obtain ⟨m5, e5, h5⟩ : ∃ m5 : Int, (if L < 4 then L else 4) = m5 ∧ m5 ≤ 63 := ⟨_, rfl, by split <;> omega⟩
  obtain ⟨m1, e1, h1, h1'⟩ : ∃ m1 : Int, (if 1 < m5 then m5 else 1) = m1 ∧ 0 ≤ m1 ∧ m1 ≤ 63 := ⟨_, rfl, by split <;> omega, by split <;> omega⟩
  have k1 : min2D [.int 4, .int L] [] = .ok (.int m5) [] := by simp only [int2D, e5]
  have k2 : max2D [.int 1, .int m5] [] = .ok (.int m1) [] := by simp only [int2D, e1]
  have hv : -(2 ^ 62) ≤ m1 ∧ m1 < 2 ^ 62 := by omega
  obtain ⟨rs, st', k3, f1, f2⟩ := lc_rounds ns hl m1.toNat (by omega) m1.toNat 0 [] [.lst []] (by omega) (Nat.le_refl _) (fun r h => nomatch h) rfl
  have wp : wipeD [some (.kl (ns.map .int)), some (.int 4), none] [2] = [some (.kl (ns.map .int)), some (.int 4), none] := rfl
  refine ⟨rs, st', ?_, f1, f2⟩
  clear e5 e1 eL
  simp only [M__law_rounds, m__law_rounds, sSeq, sAsg, sIf, sRet, sRetN, sNext, sDrop, sPar, sNo, sRaise, sBreak, sCont, dVar, dC, dBin, dUn, dCall, aNil, aCons, dTup, dLst, tVal, tAndD, tOrD, tNotD, dAndV, dOrV, dNotV, dIf, dChain, tTru, truthD, mName, mNil, mCons, mTup, mSub, dFn, O.res, R.bind_ok, R.bind_er, R.bind_no, R.toS_ok, R.toS_er, R.toS_no, O.thn_nx, O.thn_rt, O.thn_er, O.thn_bk, O.thn_ct, O.thn_no, startE, List.map, List.length_cons, List.length_nil, List.replicate, List.cons_append, List.nil_append, List.append_assoc, List.getElem?_cons_zero, List.getElem?_cons_succ, List.set, List.length_append, at_k, at_0, seq_k, seq_0, seq_c0, seq_cs, d_eq_int, d_ne_int, d_eq_str, d_ne_str, d_eq_bl, d_add_int, d_sub_int, d_neg_int, d_cmp_int, d_ix_tup, d_ix_kl, d_ix_ref, atI_0, atI_1, atI_2, Nat.zero_add, Nat.add_zero, Nat.add_assoc, Nat.reduceAdd, Nat.reduceLeDiff, Nat.reduceSub, Nat.reduceLT, ↓reduceIte, Bool.not_true, Bool.not_false, Bool.false_eq_true, nc_0, nc_1, nc_2, nc_3, nc_4, ln, k1, k2, dLc, itRng1, hv, and_self, wp, k3]
end Pk

namespace Pk
open PySem PySem.Spec PyProof.Rows L2 Dn Dt Hh
def b_law : MS := (sSeq (sAsg (dBin addD (dC (.int 2)) (dCall (dFn 2 M__law_roll) (aCons (dVar 1) (aCons (dC (.int 9)) aNil)))) (mName 2)) (sSeq (sPar 7 8 (aCons (dTup (aCons (dC (.str "near")) (aCons (dTup (aCons (dC (.int 1)) (aCons (dC (.int 1)) aNil))) (aCons (dC (.str "up")) aNil)))) (aCons (dTup (aCons (dC (.str "near")) (aCons (dTup (aCons (dC (.int 1)) (aCons (dVar 2) aNil))) (aCons (dC (.str "up")) aNil)))) aNil))) (sSeq (sAsg (dTup (aCons (dVar 8) (aCons (dVar 7) aNil))) (mName 3)) (sSeq (sIf (tVal (dBin eqD (dBin modD (dVar 2) (dC (.int 2))) (dC (.int 1)))) (sIf (tOrD (tNotD (tTru (dCall (dFn 2 P_same) (aCons (dVar 3) (aCons (dTup (aCons (dVar 7) aNil)) aNil))))) (tVal (dBin neD (dCall (dFn 2 P_unlike_share) (aCons (dVar 3) (aCons (dTup (aCons (dVar 7) aNil)) aNil))) (dTup (aCons (dC (.int 0)) (aCons (dC (.int 1)) aNil)))))) (sRet (dC (.bl false))) sNext) (sSeq (sIf (tVal (dBin neD (dCall (dFn 2 P_unlike_share) (aCons (dVar 3) (aCons (dTup (aCons (dVar 7) aNil)) aNil))) (dTup (aCons (dC (.int 1)) (aCons (dBin mulD (dC (.int 2)) (dVar 2)) aNil))))) (sRet (dC (.bl false))) sNext) (sSeq (sIf (tVal (dBin neD (dCall (dFn 2 P_greatest_gap) (aCons (dVar 3) (aCons (dTup (aCons (dVar 7) aNil)) aNil))) (dTup (aCons (dTup (aCons (dC (.int 1)) (aCons (dC (.int 1)) aNil))) (aCons (dC (.bl true)) aNil))))) (sRet (dC (.bl false))) sNext) (sSeq (sIf (tVal (dBin neD (dCall (dFn 2 P_sources) (aCons (dVar 3) (aCons (dTup (aCons (dC (.int 1)) (aCons (dC (.int 1)) aNil))) aNil))) (dTup (aCons (dTup (aCons (dCall (dFn 2 P__law_low) (aCons (dBin subD (dVar 2) (dC (.int 1))) (aCons (dBin mulD (dC (.int 2)) (dVar 2)) aNil))) (aCons (dCall (dFn 2 P__law_low) (aCons (dBin subD (dBin mulD (dC (.int 3)) (dVar 2)) (dC (.int 1))) (aCons (dBin mulD (dC (.int 2)) (dVar 2)) aNil))) (aCons (dC (.bl true)) (aCons (dC (.bl false)) aNil))))) aNil)))) (sRet (dC (.bl false))) sNext) (sIf (tVal (dBin neD (dCall (dFn 1 P_form) (aCons (dVar 3) aNil)) (dTup (aCons (dTup (aCons (dC (.int 0)) (aCons (dC (.int 1)) aNil))) (aCons (dTup (aCons (dC (.int 1)) (aCons (dC (.int 1)) aNil))) (aCons (dTup (aCons (dC (.int 1)) (aCons (dC (.int 1)) aNil))) (aCons (dTup (aCons (dTup (aCons (dCall (dFn 2 P__law_low) (aCons (dBin subD (dVar 2) (dC (.int 1))) (aCons (dBin mulD (dC (.int 2)) (dVar 2)) aNil))) (aCons (dTup (aCons (dC (.int 1)) (aCons (dC (.int 1)) aNil))) (aCons (dTup (aCons (dC (.int 1)) (aCons (dC (.int 1)) aNil))) aNil)))) aNil)) aNil))))))) (sRet (dC (.bl false))) sNext))))) (sSeq (sAsg (dTup (aCons (dTup (aCons (dC (.str "near")) (aCons (dTup (aCons (dC (.int 1)) (aCons (dVar 2) aNil))) (aCons (dC (.str "down")) aNil)))) (aCons (dTup (aCons (dC (.str "near")) (aCons (dTup (aCons (dC (.int 1)) (aCons (dC (.int 1)) aNil))) (aCons (dC (.str "down")) aNil)))) aNil))) (mName 4)) (sSeq (sIf (tVal (dBin neD (dCall (dFn 2 P_unlike_share) (aCons (dVar 4) (aCons (dTup (aCons (dTup (aCons (dC (.str "near")) (aCons (dTup (aCons (dC (.int 1)) (aCons (dC (.int 1)) aNil))) (aCons (dC (.str "down")) aNil)))) aNil)) aNil))) (dIf (tVal (dBin eqD (dBin modD (dVar 2) (dC (.int 2))) (dC (.int 0)))) (dTup (aCons (dC (.int 1)) (aCons (dBin mulD (dC (.int 2)) (dVar 2)) aNil))) (dTup (aCons (dC (.int 0)) (aCons (dC (.int 1)) aNil)))))) (sRet (dC (.bl false))) sNext) (sSeq (sAsg (dTup (aCons (dTup (aCons (dC (.str "near")) (aCons (dTup (aCons (dC (.int 1)) (aCons (dVar 2) aNil))) (aCons (dC (.str "down")) aNil)))) (aCons (dVar 7) aNil))) (mName 5)) (sSeq (sPar 9 10 (aCons (dCall (dFn 2 P__law_low) (aCons (dUn negD (dBin addD (dVar 2) (dC (.int 1)))) (aCons (dBin mulD (dC (.int 2)) (dVar 2)) aNil))) (aCons (dCall (dFn 2 P__law_low) (aCons (dBin subD (dVar 2) (dC (.int 1))) (aCons (dBin mulD (dC (.int 2)) (dVar 2)) aNil))) aNil))) (sSeq (sIf (tAndD (tVal (dBin eqD (dBin modD (dVar 2) (dC (.int 2))) (dC (.int 0)))) (tVal (dBin neD (dCall (dFn 2 P_sources) (aCons (dVar 5) (aCons (dTup (aCons (dC (.int 0)) (aCons (dC (.int 1)) aNil))) aNil))) (dTup (aCons (dTup (aCons (dVar 9) (aCons (dVar 10) (aCons (dC (.bl false)) (aCons (dC (.bl true)) aNil))))) aNil))))) (sRet (dC (.bl false))) sNext) (sSeq (sAsg (dTup (aCons (dTup (aCons (dC (.str "times")) (aCons (dTup (aCons (dC (.int 10)) (aCons (dC (.int 1)) aNil))) aNil))) (aCons (dTup (aCons (dC (.str "near")) (aCons (dTup (aCons (dC (.int 1)) (aCons (dC (.int 1)) aNil))) (aCons (dC (.str "up")) aNil)))) (aCons (dTup (aCons (dC (.str "times")) (aCons (dTup (aCons (dC (.int 1)) (aCons (dC (.int 10)) aNil))) aNil))) (aCons (dVar 7) aNil))))) (mName 6)) (sSeq (sIf (tOrD (tNotD (tTru (dCall (dFn 2 P_same) (aCons (dVar 6) (aCons (dTup (aCons (dTup (aCons (dC (.str "near")) (aCons (dTup (aCons (dC (.int 1)) (aCons (dC (.int 10)) aNil))) (aCons (dC (.str "up")) aNil)))) (aCons (dVar 7) aNil))) aNil))))) (tVal (dBin neD (dCall (dFn 2 P_unlike_share) (aCons (dVar 6) (aCons (dTup (aCons (dVar 7) aNil)) aNil))) (dTup (aCons (dC (.int 1)) (aCons (dC (.int 20)) aNil)))))) (sRet (dC (.bl false))) sNext) (sIf (tOrD (tNotD (tTru (dCall (dFn 1 P_rises) (aCons (dVar 3) aNil)))) (tOrD (tNotD (tTru (dCall (dFn 1 P_keeps) (aCons (dVar 3) aNil)))) (tNotD (tTru (dCall (dFn 1 P_keeps) (aCons (dVar 4) aNil)))))) (sRet (dC (.bl false))) sNext))))))))))))
theorem m_law_eq : m_law = (sSeq (sFor (itSeq (dCall (dFn 2 M__law_rounds) (aCons (dVar 0) (aCons (dC (.int 4)) aNil)))) (mName 1) b_law) (sRet (dC (.bl true)))) := rfl
end Pk

set_option Elab.async false
set_option linter.all false
set_option maxRecDepth 100000
set_option maxHeartbeats 8000000
namespace Pk
open PySem PySem.Spec PyProof.Rows L2 Dn Dt Hh
theorem seq_nx {a b : MS} {env e' : Ev} {st s' : Sto} (h : a env st = .nx e' s') : (sSeq a b) env st = b e' s' := by
  show (a env st).thn b = _
  rw [h]
  rfl
def b_s0 : MS := (sAsg (dBin addD (dC (.int 2)) (dCall (dFn 2 M__law_roll) (aCons (dVar 1) (aCons (dC (.int 9)) aNil)))) (mName 2))
def b_s1 : MS := (sPar 7 8 (aCons (dTup (aCons (dC (.str "near")) (aCons (dTup (aCons (dC (.int 1)) (aCons (dC (.int 1)) aNil))) (aCons (dC (.str "up")) aNil)))) (aCons (dTup (aCons (dC (.str "near")) (aCons (dTup (aCons (dC (.int 1)) (aCons (dVar 2) aNil))) (aCons (dC (.str "up")) aNil)))) aNil)))
def b_s2 : MS := (sAsg (dTup (aCons (dVar 8) (aCons (dVar 7) aNil))) (mName 3))
def b_s3 : MS := (sIf (tVal (dBin eqD (dBin modD (dVar 2) (dC (.int 2))) (dC (.int 1)))) (sIf (tOrD (tNotD (tTru (dCall (dFn 2 P_same) (aCons (dVar 3) (aCons (dTup (aCons (dVar 7) aNil)) aNil))))) (tVal (dBin neD (dCall (dFn 2 P_unlike_share) (aCons (dVar 3) (aCons (dTup (aCons (dVar 7) aNil)) aNil))) (dTup (aCons (dC (.int 0)) (aCons (dC (.int 1)) aNil)))))) (sRet (dC (.bl false))) sNext) (sSeq (sIf (tVal (dBin neD (dCall (dFn 2 P_unlike_share) (aCons (dVar 3) (aCons (dTup (aCons (dVar 7) aNil)) aNil))) (dTup (aCons (dC (.int 1)) (aCons (dBin mulD (dC (.int 2)) (dVar 2)) aNil))))) (sRet (dC (.bl false))) sNext) (sSeq (sIf (tVal (dBin neD (dCall (dFn 2 P_greatest_gap) (aCons (dVar 3) (aCons (dTup (aCons (dVar 7) aNil)) aNil))) (dTup (aCons (dTup (aCons (dC (.int 1)) (aCons (dC (.int 1)) aNil))) (aCons (dC (.bl true)) aNil))))) (sRet (dC (.bl false))) sNext) (sSeq (sIf (tVal (dBin neD (dCall (dFn 2 P_sources) (aCons (dVar 3) (aCons (dTup (aCons (dC (.int 1)) (aCons (dC (.int 1)) aNil))) aNil))) (dTup (aCons (dTup (aCons (dCall (dFn 2 P__law_low) (aCons (dBin subD (dVar 2) (dC (.int 1))) (aCons (dBin mulD (dC (.int 2)) (dVar 2)) aNil))) (aCons (dCall (dFn 2 P__law_low) (aCons (dBin subD (dBin mulD (dC (.int 3)) (dVar 2)) (dC (.int 1))) (aCons (dBin mulD (dC (.int 2)) (dVar 2)) aNil))) (aCons (dC (.bl true)) (aCons (dC (.bl false)) aNil))))) aNil)))) (sRet (dC (.bl false))) sNext) (sIf (tVal (dBin neD (dCall (dFn 1 P_form) (aCons (dVar 3) aNil)) (dTup (aCons (dTup (aCons (dC (.int 0)) (aCons (dC (.int 1)) aNil))) (aCons (dTup (aCons (dC (.int 1)) (aCons (dC (.int 1)) aNil))) (aCons (dTup (aCons (dC (.int 1)) (aCons (dC (.int 1)) aNil))) (aCons (dTup (aCons (dTup (aCons (dCall (dFn 2 P__law_low) (aCons (dBin subD (dVar 2) (dC (.int 1))) (aCons (dBin mulD (dC (.int 2)) (dVar 2)) aNil))) (aCons (dTup (aCons (dC (.int 1)) (aCons (dC (.int 1)) aNil))) (aCons (dTup (aCons (dC (.int 1)) (aCons (dC (.int 1)) aNil))) aNil)))) aNil)) aNil))))))) (sRet (dC (.bl false))) sNext)))))
def b_s4 : MS := (sAsg (dTup (aCons (dTup (aCons (dC (.str "near")) (aCons (dTup (aCons (dC (.int 1)) (aCons (dVar 2) aNil))) (aCons (dC (.str "down")) aNil)))) (aCons (dTup (aCons (dC (.str "near")) (aCons (dTup (aCons (dC (.int 1)) (aCons (dC (.int 1)) aNil))) (aCons (dC (.str "down")) aNil)))) aNil))) (mName 4))
def b_s5 : MS := (sIf (tVal (dBin neD (dCall (dFn 2 P_unlike_share) (aCons (dVar 4) (aCons (dTup (aCons (dTup (aCons (dC (.str "near")) (aCons (dTup (aCons (dC (.int 1)) (aCons (dC (.int 1)) aNil))) (aCons (dC (.str "down")) aNil)))) aNil)) aNil))) (dIf (tVal (dBin eqD (dBin modD (dVar 2) (dC (.int 2))) (dC (.int 0)))) (dTup (aCons (dC (.int 1)) (aCons (dBin mulD (dC (.int 2)) (dVar 2)) aNil))) (dTup (aCons (dC (.int 0)) (aCons (dC (.int 1)) aNil)))))) (sRet (dC (.bl false))) sNext)
def b_s6 : MS := (sAsg (dTup (aCons (dTup (aCons (dC (.str "near")) (aCons (dTup (aCons (dC (.int 1)) (aCons (dVar 2) aNil))) (aCons (dC (.str "down")) aNil)))) (aCons (dVar 7) aNil))) (mName 5))
def b_s7 : MS := (sPar 9 10 (aCons (dCall (dFn 2 P__law_low) (aCons (dUn negD (dBin addD (dVar 2) (dC (.int 1)))) (aCons (dBin mulD (dC (.int 2)) (dVar 2)) aNil))) (aCons (dCall (dFn 2 P__law_low) (aCons (dBin subD (dVar 2) (dC (.int 1))) (aCons (dBin mulD (dC (.int 2)) (dVar 2)) aNil))) aNil)))
def b_s8 : MS := (sIf (tAndD (tVal (dBin eqD (dBin modD (dVar 2) (dC (.int 2))) (dC (.int 0)))) (tVal (dBin neD (dCall (dFn 2 P_sources) (aCons (dVar 5) (aCons (dTup (aCons (dC (.int 0)) (aCons (dC (.int 1)) aNil))) aNil))) (dTup (aCons (dTup (aCons (dVar 9) (aCons (dVar 10) (aCons (dC (.bl false)) (aCons (dC (.bl true)) aNil))))) aNil))))) (sRet (dC (.bl false))) sNext)
def b_s9 : MS := (sAsg (dTup (aCons (dTup (aCons (dC (.str "times")) (aCons (dTup (aCons (dC (.int 10)) (aCons (dC (.int 1)) aNil))) aNil))) (aCons (dTup (aCons (dC (.str "near")) (aCons (dTup (aCons (dC (.int 1)) (aCons (dC (.int 1)) aNil))) (aCons (dC (.str "up")) aNil)))) (aCons (dTup (aCons (dC (.str "times")) (aCons (dTup (aCons (dC (.int 1)) (aCons (dC (.int 10)) aNil))) aNil))) (aCons (dVar 7) aNil))))) (mName 6))
def b_s10 : MS := (sIf (tOrD (tNotD (tTru (dCall (dFn 2 P_same) (aCons (dVar 6) (aCons (dTup (aCons (dTup (aCons (dC (.str "near")) (aCons (dTup (aCons (dC (.int 1)) (aCons (dC (.int 10)) aNil))) (aCons (dC (.str "up")) aNil)))) (aCons (dVar 7) aNil))) aNil))))) (tVal (dBin neD (dCall (dFn 2 P_unlike_share) (aCons (dVar 6) (aCons (dTup (aCons (dVar 7) aNil)) aNil))) (dTup (aCons (dC (.int 1)) (aCons (dC (.int 20)) aNil)))))) (sRet (dC (.bl false))) sNext)
def b_s11 : MS := (sIf (tOrD (tNotD (tTru (dCall (dFn 1 P_rises) (aCons (dVar 3) aNil)))) (tOrD (tNotD (tTru (dCall (dFn 1 P_keeps) (aCons (dVar 3) aNil)))) (tNotD (tTru (dCall (dFn 1 P_keeps) (aCons (dVar 4) aNil)))))) (sRet (dC (.bl false))) sNext)
theorem b_law_all : b_law = (sSeq b_s0 (sSeq b_s1 (sSeq b_s2 (sSeq b_s3 (sSeq b_s4 (sSeq b_s5 (sSeq b_s6 (sSeq b_s7 (sSeq b_s8 (sSeq b_s9 (sSeq b_s10 b_s11))))))))))) := rfl
theorem m2_1 (x0 x1 x2 x3 x4 x5 x6 x7 x8 x9 x10 : Option D) (st : Sto) : b_s1 [x0, x1, some (.int 2), x3, x4, x5, x6, x7, x8, x9, x10] st = .nx [x0, x1, some (.int 2), x3, x4, x5, x6, some (.tup [(.str "near"), (.tup [(.int 1), (.int 1)]), (.str "up")]), some (.tup [(.str "near"), (.tup [(.int 1), (.int 2)]), (.str "up")]), x9, x10] st := by kernel_rfl
theorem m2_2 (x0 x1 x2 x3 x4 x5 x6 x7 x8 x9 x10 : Option D) (st : Sto) : b_s2 [x0, x1, some (.int 2), x3, x4, x5, x6, some (.tup [(.str "near"), (.tup [(.int 1), (.int 1)]), (.str "up")]), some (.tup [(.str "near"), (.tup [(.int 1), (.int 2)]), (.str "up")]), x9, x10] st = .nx [x0, x1, some (.int 2), some (.tup [(.tup [(.str "near"), (.tup [(.int 1), (.int 2)]), (.str "up")]), (.tup [(.str "near"), (.tup [(.int 1), (.int 1)]), (.str "up")])]), x4, x5, x6, some (.tup [(.str "near"), (.tup [(.int 1), (.int 1)]), (.str "up")]), some (.tup [(.str "near"), (.tup [(.int 1), (.int 2)]), (.str "up")]), x9, x10] st := by kernel_rfl
theorem m2_3 (x0 x1 x2 x3 x4 x5 x6 x7 x8 x9 x10 : Option D) (st : Sto) : b_s3 [x0, x1, some (.int 2), some (.tup [(.tup [(.str "near"), (.tup [(.int 1), (.int 2)]), (.str "up")]), (.tup [(.str "near"), (.tup [(.int 1), (.int 1)]), (.str "up")])]), x4, x5, x6, some (.tup [(.str "near"), (.tup [(.int 1), (.int 1)]), (.str "up")]), some (.tup [(.str "near"), (.tup [(.int 1), (.int 2)]), (.str "up")]), x9, x10] st = .nx [x0, x1, some (.int 2), some (.tup [(.tup [(.str "near"), (.tup [(.int 1), (.int 2)]), (.str "up")]), (.tup [(.str "near"), (.tup [(.int 1), (.int 1)]), (.str "up")])]), x4, x5, x6, some (.tup [(.str "near"), (.tup [(.int 1), (.int 1)]), (.str "up")]), some (.tup [(.str "near"), (.tup [(.int 1), (.int 2)]), (.str "up")]), x9, x10] st := by kernel_rfl
theorem m2_4 (x0 x1 x2 x3 x4 x5 x6 x7 x8 x9 x10 : Option D) (st : Sto) : b_s4 [x0, x1, some (.int 2), some (.tup [(.tup [(.str "near"), (.tup [(.int 1), (.int 2)]), (.str "up")]), (.tup [(.str "near"), (.tup [(.int 1), (.int 1)]), (.str "up")])]), x4, x5, x6, some (.tup [(.str "near"), (.tup [(.int 1), (.int 1)]), (.str "up")]), some (.tup [(.str "near"), (.tup [(.int 1), (.int 2)]), (.str "up")]), x9, x10] st = .nx [x0, x1, some (.int 2), some (.tup [(.tup [(.str "near"), (.tup [(.int 1), (.int 2)]), (.str "up")]), (.tup [(.str "near"), (.tup [(.int 1), (.int 1)]), (.str "up")])]), some (.tup [(.tup [(.str "near"), (.tup [(.int 1), (.int 2)]), (.str "down")]), (.tup [(.str "near"), (.tup [(.int 1), (.int 1)]), (.str "down")])]), x5, x6, some (.tup [(.str "near"), (.tup [(.int 1), (.int 1)]), (.str "up")]), some (.tup [(.str "near"), (.tup [(.int 1), (.int 2)]), (.str "up")]), x9, x10] st := by kernel_rfl
theorem m2_5 (x0 x1 x2 x3 x4 x5 x6 x7 x8 x9 x10 : Option D) (st : Sto) : b_s5 [x0, x1, some (.int 2), some (.tup [(.tup [(.str "near"), (.tup [(.int 1), (.int 2)]), (.str "up")]), (.tup [(.str "near"), (.tup [(.int 1), (.int 1)]), (.str "up")])]), some (.tup [(.tup [(.str "near"), (.tup [(.int 1), (.int 2)]), (.str "down")]), (.tup [(.str "near"), (.tup [(.int 1), (.int 1)]), (.str "down")])]), x5, x6, some (.tup [(.str "near"), (.tup [(.int 1), (.int 1)]), (.str "up")]), some (.tup [(.str "near"), (.tup [(.int 1), (.int 2)]), (.str "up")]), x9, x10] st = .nx [x0, x1, some (.int 2), some (.tup [(.tup [(.str "near"), (.tup [(.int 1), (.int 2)]), (.str "up")]), (.tup [(.str "near"), (.tup [(.int 1), (.int 1)]), (.str "up")])]), some (.tup [(.tup [(.str "near"), (.tup [(.int 1), (.int 2)]), (.str "down")]), (.tup [(.str "near"), (.tup [(.int 1), (.int 1)]), (.str "down")])]), x5, x6, some (.tup [(.str "near"), (.tup [(.int 1), (.int 1)]), (.str "up")]), some (.tup [(.str "near"), (.tup [(.int 1), (.int 2)]), (.str "up")]), x9, x10] st := by kernel_rfl
theorem m2_6 (x0 x1 x2 x3 x4 x5 x6 x7 x8 x9 x10 : Option D) (st : Sto) : b_s6 [x0, x1, some (.int 2), some (.tup [(.tup [(.str "near"), (.tup [(.int 1), (.int 2)]), (.str "up")]), (.tup [(.str "near"), (.tup [(.int 1), (.int 1)]), (.str "up")])]), some (.tup [(.tup [(.str "near"), (.tup [(.int 1), (.int 2)]), (.str "down")]), (.tup [(.str "near"), (.tup [(.int 1), (.int 1)]), (.str "down")])]), x5, x6, some (.tup [(.str "near"), (.tup [(.int 1), (.int 1)]), (.str "up")]), some (.tup [(.str "near"), (.tup [(.int 1), (.int 2)]), (.str "up")]), x9, x10] st = .nx [x0, x1, some (.int 2), some (.tup [(.tup [(.str "near"), (.tup [(.int 1), (.int 2)]), (.str "up")]), (.tup [(.str "near"), (.tup [(.int 1), (.int 1)]), (.str "up")])]), some (.tup [(.tup [(.str "near"), (.tup [(.int 1), (.int 2)]), (.str "down")]), (.tup [(.str "near"), (.tup [(.int 1), (.int 1)]), (.str "down")])]), some (.tup [(.tup [(.str "near"), (.tup [(.int 1), (.int 2)]), (.str "down")]), (.tup [(.str "near"), (.tup [(.int 1), (.int 1)]), (.str "up")])]), x6, some (.tup [(.str "near"), (.tup [(.int 1), (.int 1)]), (.str "up")]), some (.tup [(.str "near"), (.tup [(.int 1), (.int 2)]), (.str "up")]), x9, x10] st := by kernel_rfl
theorem m2_7 (x0 x1 x2 x3 x4 x5 x6 x7 x8 x9 x10 : Option D) (st : Sto) : b_s7 [x0, x1, some (.int 2), some (.tup [(.tup [(.str "near"), (.tup [(.int 1), (.int 2)]), (.str "up")]), (.tup [(.str "near"), (.tup [(.int 1), (.int 1)]), (.str "up")])]), some (.tup [(.tup [(.str "near"), (.tup [(.int 1), (.int 2)]), (.str "down")]), (.tup [(.str "near"), (.tup [(.int 1), (.int 1)]), (.str "down")])]), some (.tup [(.tup [(.str "near"), (.tup [(.int 1), (.int 2)]), (.str "down")]), (.tup [(.str "near"), (.tup [(.int 1), (.int 1)]), (.str "up")])]), x6, some (.tup [(.str "near"), (.tup [(.int 1), (.int 1)]), (.str "up")]), some (.tup [(.str "near"), (.tup [(.int 1), (.int 2)]), (.str "up")]), x9, x10] st = .nx [x0, x1, some (.int 2), some (.tup [(.tup [(.str "near"), (.tup [(.int 1), (.int 2)]), (.str "up")]), (.tup [(.str "near"), (.tup [(.int 1), (.int 1)]), (.str "up")])]), some (.tup [(.tup [(.str "near"), (.tup [(.int 1), (.int 2)]), (.str "down")]), (.tup [(.str "near"), (.tup [(.int 1), (.int 1)]), (.str "down")])]), some (.tup [(.tup [(.str "near"), (.tup [(.int 1), (.int 2)]), (.str "down")]), (.tup [(.str "near"), (.tup [(.int 1), (.int 1)]), (.str "up")])]), x6, some (.tup [(.str "near"), (.tup [(.int 1), (.int 1)]), (.str "up")]), some (.tup [(.str "near"), (.tup [(.int 1), (.int 2)]), (.str "up")]), some (.tup [(.int (-3)), (.int 4)]), some (.tup [(.int 1), (.int 4)])] st := by kernel_rfl
theorem m2_8 (x0 x1 x2 x3 x4 x5 x6 x7 x8 x9 x10 : Option D) (st : Sto) : b_s8 [x0, x1, some (.int 2), some (.tup [(.tup [(.str "near"), (.tup [(.int 1), (.int 2)]), (.str "up")]), (.tup [(.str "near"), (.tup [(.int 1), (.int 1)]), (.str "up")])]), some (.tup [(.tup [(.str "near"), (.tup [(.int 1), (.int 2)]), (.str "down")]), (.tup [(.str "near"), (.tup [(.int 1), (.int 1)]), (.str "down")])]), some (.tup [(.tup [(.str "near"), (.tup [(.int 1), (.int 2)]), (.str "down")]), (.tup [(.str "near"), (.tup [(.int 1), (.int 1)]), (.str "up")])]), x6, some (.tup [(.str "near"), (.tup [(.int 1), (.int 1)]), (.str "up")]), some (.tup [(.str "near"), (.tup [(.int 1), (.int 2)]), (.str "up")]), some (.tup [(.int (-3)), (.int 4)]), some (.tup [(.int 1), (.int 4)])] st = .nx [x0, x1, some (.int 2), some (.tup [(.tup [(.str "near"), (.tup [(.int 1), (.int 2)]), (.str "up")]), (.tup [(.str "near"), (.tup [(.int 1), (.int 1)]), (.str "up")])]), some (.tup [(.tup [(.str "near"), (.tup [(.int 1), (.int 2)]), (.str "down")]), (.tup [(.str "near"), (.tup [(.int 1), (.int 1)]), (.str "down")])]), some (.tup [(.tup [(.str "near"), (.tup [(.int 1), (.int 2)]), (.str "down")]), (.tup [(.str "near"), (.tup [(.int 1), (.int 1)]), (.str "up")])]), x6, some (.tup [(.str "near"), (.tup [(.int 1), (.int 1)]), (.str "up")]), some (.tup [(.str "near"), (.tup [(.int 1), (.int 2)]), (.str "up")]), some (.tup [(.int (-3)), (.int 4)]), some (.tup [(.int 1), (.int 4)])] st := by kernel_rfl
theorem m2_9 (x0 x1 x2 x3 x4 x5 x6 x7 x8 x9 x10 : Option D) (st : Sto) : b_s9 [x0, x1, some (.int 2), some (.tup [(.tup [(.str "near"), (.tup [(.int 1), (.int 2)]), (.str "up")]), (.tup [(.str "near"), (.tup [(.int 1), (.int 1)]), (.str "up")])]), some (.tup [(.tup [(.str "near"), (.tup [(.int 1), (.int 2)]), (.str "down")]), (.tup [(.str "near"), (.tup [(.int 1), (.int 1)]), (.str "down")])]), some (.tup [(.tup [(.str "near"), (.tup [(.int 1), (.int 2)]), (.str "down")]), (.tup [(.str "near"), (.tup [(.int 1), (.int 1)]), (.str "up")])]), x6, some (.tup [(.str "near"), (.tup [(.int 1), (.int 1)]), (.str "up")]), some (.tup [(.str "near"), (.tup [(.int 1), (.int 2)]), (.str "up")]), some (.tup [(.int (-3)), (.int 4)]), some (.tup [(.int 1), (.int 4)])] st = .nx [x0, x1, some (.int 2), some (.tup [(.tup [(.str "near"), (.tup [(.int 1), (.int 2)]), (.str "up")]), (.tup [(.str "near"), (.tup [(.int 1), (.int 1)]), (.str "up")])]), some (.tup [(.tup [(.str "near"), (.tup [(.int 1), (.int 2)]), (.str "down")]), (.tup [(.str "near"), (.tup [(.int 1), (.int 1)]), (.str "down")])]), some (.tup [(.tup [(.str "near"), (.tup [(.int 1), (.int 2)]), (.str "down")]), (.tup [(.str "near"), (.tup [(.int 1), (.int 1)]), (.str "up")])]), some (.tup [(.tup [(.str "times"), (.tup [(.int 10), (.int 1)])]), (.tup [(.str "near"), (.tup [(.int 1), (.int 1)]), (.str "up")]), (.tup [(.str "times"), (.tup [(.int 1), (.int 10)])]), (.tup [(.str "near"), (.tup [(.int 1), (.int 1)]), (.str "up")])]), some (.tup [(.str "near"), (.tup [(.int 1), (.int 1)]), (.str "up")]), some (.tup [(.str "near"), (.tup [(.int 1), (.int 2)]), (.str "up")]), some (.tup [(.int (-3)), (.int 4)]), some (.tup [(.int 1), (.int 4)])] st := by kernel_rfl
theorem m2_10 (x0 x1 x2 x3 x4 x5 x6 x7 x8 x9 x10 : Option D) (st : Sto) : b_s10 [x0, x1, some (.int 2), some (.tup [(.tup [(.str "near"), (.tup [(.int 1), (.int 2)]), (.str "up")]), (.tup [(.str "near"), (.tup [(.int 1), (.int 1)]), (.str "up")])]), some (.tup [(.tup [(.str "near"), (.tup [(.int 1), (.int 2)]), (.str "down")]), (.tup [(.str "near"), (.tup [(.int 1), (.int 1)]), (.str "down")])]), some (.tup [(.tup [(.str "near"), (.tup [(.int 1), (.int 2)]), (.str "down")]), (.tup [(.str "near"), (.tup [(.int 1), (.int 1)]), (.str "up")])]), some (.tup [(.tup [(.str "times"), (.tup [(.int 10), (.int 1)])]), (.tup [(.str "near"), (.tup [(.int 1), (.int 1)]), (.str "up")]), (.tup [(.str "times"), (.tup [(.int 1), (.int 10)])]), (.tup [(.str "near"), (.tup [(.int 1), (.int 1)]), (.str "up")])]), some (.tup [(.str "near"), (.tup [(.int 1), (.int 1)]), (.str "up")]), some (.tup [(.str "near"), (.tup [(.int 1), (.int 2)]), (.str "up")]), some (.tup [(.int (-3)), (.int 4)]), some (.tup [(.int 1), (.int 4)])] st = .nx [x0, x1, some (.int 2), some (.tup [(.tup [(.str "near"), (.tup [(.int 1), (.int 2)]), (.str "up")]), (.tup [(.str "near"), (.tup [(.int 1), (.int 1)]), (.str "up")])]), some (.tup [(.tup [(.str "near"), (.tup [(.int 1), (.int 2)]), (.str "down")]), (.tup [(.str "near"), (.tup [(.int 1), (.int 1)]), (.str "down")])]), some (.tup [(.tup [(.str "near"), (.tup [(.int 1), (.int 2)]), (.str "down")]), (.tup [(.str "near"), (.tup [(.int 1), (.int 1)]), (.str "up")])]), some (.tup [(.tup [(.str "times"), (.tup [(.int 10), (.int 1)])]), (.tup [(.str "near"), (.tup [(.int 1), (.int 1)]), (.str "up")]), (.tup [(.str "times"), (.tup [(.int 1), (.int 10)])]), (.tup [(.str "near"), (.tup [(.int 1), (.int 1)]), (.str "up")])]), some (.tup [(.str "near"), (.tup [(.int 1), (.int 1)]), (.str "up")]), some (.tup [(.str "near"), (.tup [(.int 1), (.int 2)]), (.str "up")]), some (.tup [(.int (-3)), (.int 4)]), some (.tup [(.int 1), (.int 4)])] st := by kernel_rfl
theorem m2_11 (x0 x1 x2 x3 x4 x5 x6 x7 x8 x9 x10 : Option D) (st : Sto) : b_s11 [x0, x1, some (.int 2), some (.tup [(.tup [(.str "near"), (.tup [(.int 1), (.int 2)]), (.str "up")]), (.tup [(.str "near"), (.tup [(.int 1), (.int 1)]), (.str "up")])]), some (.tup [(.tup [(.str "near"), (.tup [(.int 1), (.int 2)]), (.str "down")]), (.tup [(.str "near"), (.tup [(.int 1), (.int 1)]), (.str "down")])]), some (.tup [(.tup [(.str "near"), (.tup [(.int 1), (.int 2)]), (.str "down")]), (.tup [(.str "near"), (.tup [(.int 1), (.int 1)]), (.str "up")])]), some (.tup [(.tup [(.str "times"), (.tup [(.int 10), (.int 1)])]), (.tup [(.str "near"), (.tup [(.int 1), (.int 1)]), (.str "up")]), (.tup [(.str "times"), (.tup [(.int 1), (.int 10)])]), (.tup [(.str "near"), (.tup [(.int 1), (.int 1)]), (.str "up")])]), some (.tup [(.str "near"), (.tup [(.int 1), (.int 1)]), (.str "up")]), some (.tup [(.str "near"), (.tup [(.int 1), (.int 2)]), (.str "up")]), some (.tup [(.int (-3)), (.int 4)]), some (.tup [(.int 1), (.int 4)])] st = .nx [x0, x1, some (.int 2), some (.tup [(.tup [(.str "near"), (.tup [(.int 1), (.int 2)]), (.str "up")]), (.tup [(.str "near"), (.tup [(.int 1), (.int 1)]), (.str "up")])]), some (.tup [(.tup [(.str "near"), (.tup [(.int 1), (.int 2)]), (.str "down")]), (.tup [(.str "near"), (.tup [(.int 1), (.int 1)]), (.str "down")])]), some (.tup [(.tup [(.str "near"), (.tup [(.int 1), (.int 2)]), (.str "down")]), (.tup [(.str "near"), (.tup [(.int 1), (.int 1)]), (.str "up")])]), some (.tup [(.tup [(.str "times"), (.tup [(.int 10), (.int 1)])]), (.tup [(.str "near"), (.tup [(.int 1), (.int 1)]), (.str "up")]), (.tup [(.str "times"), (.tup [(.int 1), (.int 10)])]), (.tup [(.str "near"), (.tup [(.int 1), (.int 1)]), (.str "up")])]), some (.tup [(.str "near"), (.tup [(.int 1), (.int 1)]), (.str "up")]), some (.tup [(.str "near"), (.tup [(.int 1), (.int 2)]), (.str "up")]), some (.tup [(.int (-3)), (.int 4)]), some (.tup [(.int 1), (.int 4)])] st := by kernel_rfl
theorem m2_all (x0 x1 x2 x3 x4 x5 x6 x7 x8 x9 x10 : Option D) (st : Sto) : ∃ y3 y4 y5 y6 y7 y8 y9 y10, (sSeq b_s1 (sSeq b_s2 (sSeq b_s3 (sSeq b_s4 (sSeq b_s5 (sSeq b_s6 (sSeq b_s7 (sSeq b_s8 (sSeq b_s9 (sSeq b_s10 b_s11)))))))))) [x0, x1, some (.int 2), x3, x4, x5, x6, x7, x8, x9, x10] st = .nx [x0, x1, some (.int 2), y3, y4, y5, y6, y7, y8, y9, y10] st := by
  refine ⟨some (.tup [(.tup [(.str "near"), (.tup [(.int 1), (.int 2)]), (.str "up")]), (.tup [(.str "near"), (.tup [(.int 1), (.int 1)]), (.str "up")])]), some (.tup [(.tup [(.str "near"), (.tup [(.int 1), (.int 2)]), (.str "down")]), (.tup [(.str "near"), (.tup [(.int 1), (.int 1)]), (.str "down")])]), some (.tup [(.tup [(.str "near"), (.tup [(.int 1), (.int 2)]), (.str "down")]), (.tup [(.str "near"), (.tup [(.int 1), (.int 1)]), (.str "up")])]), some (.tup [(.tup [(.str "times"), (.tup [(.int 10), (.int 1)])]), (.tup [(.str "near"), (.tup [(.int 1), (.int 1)]), (.str "up")]), (.tup [(.str "times"), (.tup [(.int 1), (.int 10)])]), (.tup [(.str "near"), (.tup [(.int 1), (.int 1)]), (.str "up")])]), some (.tup [(.str "near"), (.tup [(.int 1), (.int 1)]), (.str "up")]), some (.tup [(.str "near"), (.tup [(.int 1), (.int 2)]), (.str "up")]), some (.tup [(.int (-3)), (.int 4)]), some (.tup [(.int 1), (.int 4)]), ?_⟩
  rw [seq_nx (m2_1 x0 x1 x2 x3 x4 x5 x6 x7 x8 x9 x10 st), seq_nx (m2_2 x0 x1 x2 x3 x4 x5 x6 x7 x8 x9 x10 st), seq_nx (m2_3 x0 x1 x2 x3 x4 x5 x6 x7 x8 x9 x10 st), seq_nx (m2_4 x0 x1 x2 x3 x4 x5 x6 x7 x8 x9 x10 st), seq_nx (m2_5 x0 x1 x2 x3 x4 x5 x6 x7 x8 x9 x10 st), seq_nx (m2_6 x0 x1 x2 x3 x4 x5 x6 x7 x8 x9 x10 st), seq_nx (m2_7 x0 x1 x2 x3 x4 x5 x6 x7 x8 x9 x10 st), seq_nx (m2_8 x0 x1 x2 x3 x4 x5 x6 x7 x8 x9 x10 st), seq_nx (m2_9 x0 x1 x2 x3 x4 x5 x6 x7 x8 x9 x10 st), seq_nx (m2_10 x0 x1 x2 x3 x4 x5 x6 x7 x8 x9 x10 st)]
  exact m2_11 x0 x1 x2 x3 x4 x5 x6 x7 x8 x9 x10 st
theorem m3_1 (x0 x1 x2 x3 x4 x5 x6 x7 x8 x9 x10 : Option D) (st : Sto) : b_s1 [x0, x1, some (.int 3), x3, x4, x5, x6, x7, x8, x9, x10] st = .nx [x0, x1, some (.int 3), x3, x4, x5, x6, some (.tup [(.str "near"), (.tup [(.int 1), (.int 1)]), (.str "up")]), some (.tup [(.str "near"), (.tup [(.int 1), (.int 3)]), (.str "up")]), x9, x10] st := by kernel_rfl
theorem m3_2 (x0 x1 x2 x3 x4 x5 x6 x7 x8 x9 x10 : Option D) (st : Sto) : b_s2 [x0, x1, some (.int 3), x3, x4, x5, x6, some (.tup [(.str "near"), (.tup [(.int 1), (.int 1)]), (.str "up")]), some (.tup [(.str "near"), (.tup [(.int 1), (.int 3)]), (.str "up")]), x9, x10] st = .nx [x0, x1, some (.int 3), some (.tup [(.tup [(.str "near"), (.tup [(.int 1), (.int 3)]), (.str "up")]), (.tup [(.str "near"), (.tup [(.int 1), (.int 1)]), (.str "up")])]), x4, x5, x6, some (.tup [(.str "near"), (.tup [(.int 1), (.int 1)]), (.str "up")]), some (.tup [(.str "near"), (.tup [(.int 1), (.int 3)]), (.str "up")]), x9, x10] st := by kernel_rfl
theorem m3_3 (x0 x1 x2 x3 x4 x5 x6 x7 x8 x9 x10 : Option D) (st : Sto) : b_s3 [x0, x1, some (.int 3), some (.tup [(.tup [(.str "near"), (.tup [(.int 1), (.int 3)]), (.str "up")]), (.tup [(.str "near"), (.tup [(.int 1), (.int 1)]), (.str "up")])]), x4, x5, x6, some (.tup [(.str "near"), (.tup [(.int 1), (.int 1)]), (.str "up")]), some (.tup [(.str "near"), (.tup [(.int 1), (.int 3)]), (.str "up")]), x9, x10] st = .nx [x0, x1, some (.int 3), some (.tup [(.tup [(.str "near"), (.tup [(.int 1), (.int 3)]), (.str "up")]), (.tup [(.str "near"), (.tup [(.int 1), (.int 1)]), (.str "up")])]), x4, x5, x6, some (.tup [(.str "near"), (.tup [(.int 1), (.int 1)]), (.str "up")]), some (.tup [(.str "near"), (.tup [(.int 1), (.int 3)]), (.str "up")]), x9, x10] st := by kernel_rfl
theorem m3_4 (x0 x1 x2 x3 x4 x5 x6 x7 x8 x9 x10 : Option D) (st : Sto) : b_s4 [x0, x1, some (.int 3), some (.tup [(.tup [(.str "near"), (.tup [(.int 1), (.int 3)]), (.str "up")]), (.tup [(.str "near"), (.tup [(.int 1), (.int 1)]), (.str "up")])]), x4, x5, x6, some (.tup [(.str "near"), (.tup [(.int 1), (.int 1)]), (.str "up")]), some (.tup [(.str "near"), (.tup [(.int 1), (.int 3)]), (.str "up")]), x9, x10] st = .nx [x0, x1, some (.int 3), some (.tup [(.tup [(.str "near"), (.tup [(.int 1), (.int 3)]), (.str "up")]), (.tup [(.str "near"), (.tup [(.int 1), (.int 1)]), (.str "up")])]), some (.tup [(.tup [(.str "near"), (.tup [(.int 1), (.int 3)]), (.str "down")]), (.tup [(.str "near"), (.tup [(.int 1), (.int 1)]), (.str "down")])]), x5, x6, some (.tup [(.str "near"), (.tup [(.int 1), (.int 1)]), (.str "up")]), some (.tup [(.str "near"), (.tup [(.int 1), (.int 3)]), (.str "up")]), x9, x10] st := by kernel_rfl
theorem m3_5 (x0 x1 x2 x3 x4 x5 x6 x7 x8 x9 x10 : Option D) (st : Sto) : b_s5 [x0, x1, some (.int 3), some (.tup [(.tup [(.str "near"), (.tup [(.int 1), (.int 3)]), (.str "up")]), (.tup [(.str "near"), (.tup [(.int 1), (.int 1)]), (.str "up")])]), some (.tup [(.tup [(.str "near"), (.tup [(.int 1), (.int 3)]), (.str "down")]), (.tup [(.str "near"), (.tup [(.int 1), (.int 1)]), (.str "down")])]), x5, x6, some (.tup [(.str "near"), (.tup [(.int 1), (.int 1)]), (.str "up")]), some (.tup [(.str "near"), (.tup [(.int 1), (.int 3)]), (.str "up")]), x9, x10] st = .nx [x0, x1, some (.int 3), some (.tup [(.tup [(.str "near"), (.tup [(.int 1), (.int 3)]), (.str "up")]), (.tup [(.str "near"), (.tup [(.int 1), (.int 1)]), (.str "up")])]), some (.tup [(.tup [(.str "near"), (.tup [(.int 1), (.int 3)]), (.str "down")]), (.tup [(.str "near"), (.tup [(.int 1), (.int 1)]), (.str "down")])]), x5, x6, some (.tup [(.str "near"), (.tup [(.int 1), (.int 1)]), (.str "up")]), some (.tup [(.str "near"), (.tup [(.int 1), (.int 3)]), (.str "up")]), x9, x10] st := by kernel_rfl
theorem m3_6 (x0 x1 x2 x3 x4 x5 x6 x7 x8 x9 x10 : Option D) (st : Sto) : b_s6 [x0, x1, some (.int 3), some (.tup [(.tup [(.str "near"), (.tup [(.int 1), (.int 3)]), (.str "up")]), (.tup [(.str "near"), (.tup [(.int 1), (.int 1)]), (.str "up")])]), some (.tup [(.tup [(.str "near"), (.tup [(.int 1), (.int 3)]), (.str "down")]), (.tup [(.str "near"), (.tup [(.int 1), (.int 1)]), (.str "down")])]), x5, x6, some (.tup [(.str "near"), (.tup [(.int 1), (.int 1)]), (.str "up")]), some (.tup [(.str "near"), (.tup [(.int 1), (.int 3)]), (.str "up")]), x9, x10] st = .nx [x0, x1, some (.int 3), some (.tup [(.tup [(.str "near"), (.tup [(.int 1), (.int 3)]), (.str "up")]), (.tup [(.str "near"), (.tup [(.int 1), (.int 1)]), (.str "up")])]), some (.tup [(.tup [(.str "near"), (.tup [(.int 1), (.int 3)]), (.str "down")]), (.tup [(.str "near"), (.tup [(.int 1), (.int 1)]), (.str "down")])]), some (.tup [(.tup [(.str "near"), (.tup [(.int 1), (.int 3)]), (.str "down")]), (.tup [(.str "near"), (.tup [(.int 1), (.int 1)]), (.str "up")])]), x6, some (.tup [(.str "near"), (.tup [(.int 1), (.int 1)]), (.str "up")]), some (.tup [(.str "near"), (.tup [(.int 1), (.int 3)]), (.str "up")]), x9, x10] st := by kernel_rfl
theorem m3_7 (x0 x1 x2 x3 x4 x5 x6 x7 x8 x9 x10 : Option D) (st : Sto) : b_s7 [x0, x1, some (.int 3), some (.tup [(.tup [(.str "near"), (.tup [(.int 1), (.int 3)]), (.str "up")]), (.tup [(.str "near"), (.tup [(.int 1), (.int 1)]), (.str "up")])]), some (.tup [(.tup [(.str "near"), (.tup [(.int 1), (.int 3)]), (.str "down")]), (.tup [(.str "near"), (.tup [(.int 1), (.int 1)]), (.str "down")])]), some (.tup [(.tup [(.str "near"), (.tup [(.int 1), (.int 3)]), (.str "down")]), (.tup [(.str "near"), (.tup [(.int 1), (.int 1)]), (.str "up")])]), x6, some (.tup [(.str "near"), (.tup [(.int 1), (.int 1)]), (.str "up")]), some (.tup [(.str "near"), (.tup [(.int 1), (.int 3)]), (.str "up")]), x9, x10] st = .nx [x0, x1, some (.int 3), some (.tup [(.tup [(.str "near"), (.tup [(.int 1), (.int 3)]), (.str "up")]), (.tup [(.str "near"), (.tup [(.int 1), (.int 1)]), (.str "up")])]), some (.tup [(.tup [(.str "near"), (.tup [(.int 1), (.int 3)]), (.str "down")]), (.tup [(.str "near"), (.tup [(.int 1), (.int 1)]), (.str "down")])]), some (.tup [(.tup [(.str "near"), (.tup [(.int 1), (.int 3)]), (.str "down")]), (.tup [(.str "near"), (.tup [(.int 1), (.int 1)]), (.str "up")])]), x6, some (.tup [(.str "near"), (.tup [(.int 1), (.int 1)]), (.str "up")]), some (.tup [(.str "near"), (.tup [(.int 1), (.int 3)]), (.str "up")]), some (.tup [(.int (-2)), (.int 3)]), some (.tup [(.int 1), (.int 3)])] st := by kernel_rfl
theorem m3_8 (x0 x1 x2 x3 x4 x5 x6 x7 x8 x9 x10 : Option D) (st : Sto) : b_s8 [x0, x1, some (.int 3), some (.tup [(.tup [(.str "near"), (.tup [(.int 1), (.int 3)]), (.str "up")]), (.tup [(.str "near"), (.tup [(.int 1), (.int 1)]), (.str "up")])]), some (.tup [(.tup [(.str "near"), (.tup [(.int 1), (.int 3)]), (.str "down")]), (.tup [(.str "near"), (.tup [(.int 1), (.int 1)]), (.str "down")])]), some (.tup [(.tup [(.str "near"), (.tup [(.int 1), (.int 3)]), (.str "down")]), (.tup [(.str "near"), (.tup [(.int 1), (.int 1)]), (.str "up")])]), x6, some (.tup [(.str "near"), (.tup [(.int 1), (.int 1)]), (.str "up")]), some (.tup [(.str "near"), (.tup [(.int 1), (.int 3)]), (.str "up")]), some (.tup [(.int (-2)), (.int 3)]), some (.tup [(.int 1), (.int 3)])] st = .nx [x0, x1, some (.int 3), some (.tup [(.tup [(.str "near"), (.tup [(.int 1), (.int 3)]), (.str "up")]), (.tup [(.str "near"), (.tup [(.int 1), (.int 1)]), (.str "up")])]), some (.tup [(.tup [(.str "near"), (.tup [(.int 1), (.int 3)]), (.str "down")]), (.tup [(.str "near"), (.tup [(.int 1), (.int 1)]), (.str "down")])]), some (.tup [(.tup [(.str "near"), (.tup [(.int 1), (.int 3)]), (.str "down")]), (.tup [(.str "near"), (.tup [(.int 1), (.int 1)]), (.str "up")])]), x6, some (.tup [(.str "near"), (.tup [(.int 1), (.int 1)]), (.str "up")]), some (.tup [(.str "near"), (.tup [(.int 1), (.int 3)]), (.str "up")]), some (.tup [(.int (-2)), (.int 3)]), some (.tup [(.int 1), (.int 3)])] st := by kernel_rfl
theorem m3_9 (x0 x1 x2 x3 x4 x5 x6 x7 x8 x9 x10 : Option D) (st : Sto) : b_s9 [x0, x1, some (.int 3), some (.tup [(.tup [(.str "near"), (.tup [(.int 1), (.int 3)]), (.str "up")]), (.tup [(.str "near"), (.tup [(.int 1), (.int 1)]), (.str "up")])]), some (.tup [(.tup [(.str "near"), (.tup [(.int 1), (.int 3)]), (.str "down")]), (.tup [(.str "near"), (.tup [(.int 1), (.int 1)]), (.str "down")])]), some (.tup [(.tup [(.str "near"), (.tup [(.int 1), (.int 3)]), (.str "down")]), (.tup [(.str "near"), (.tup [(.int 1), (.int 1)]), (.str "up")])]), x6, some (.tup [(.str "near"), (.tup [(.int 1), (.int 1)]), (.str "up")]), some (.tup [(.str "near"), (.tup [(.int 1), (.int 3)]), (.str "up")]), some (.tup [(.int (-2)), (.int 3)]), some (.tup [(.int 1), (.int 3)])] st = .nx [x0, x1, some (.int 3), some (.tup [(.tup [(.str "near"), (.tup [(.int 1), (.int 3)]), (.str "up")]), (.tup [(.str "near"), (.tup [(.int 1), (.int 1)]), (.str "up")])]), some (.tup [(.tup [(.str "near"), (.tup [(.int 1), (.int 3)]), (.str "down")]), (.tup [(.str "near"), (.tup [(.int 1), (.int 1)]), (.str "down")])]), some (.tup [(.tup [(.str "near"), (.tup [(.int 1), (.int 3)]), (.str "down")]), (.tup [(.str "near"), (.tup [(.int 1), (.int 1)]), (.str "up")])]), some (.tup [(.tup [(.str "times"), (.tup [(.int 10), (.int 1)])]), (.tup [(.str "near"), (.tup [(.int 1), (.int 1)]), (.str "up")]), (.tup [(.str "times"), (.tup [(.int 1), (.int 10)])]), (.tup [(.str "near"), (.tup [(.int 1), (.int 1)]), (.str "up")])]), some (.tup [(.str "near"), (.tup [(.int 1), (.int 1)]), (.str "up")]), some (.tup [(.str "near"), (.tup [(.int 1), (.int 3)]), (.str "up")]), some (.tup [(.int (-2)), (.int 3)]), some (.tup [(.int 1), (.int 3)])] st := by kernel_rfl
theorem m3_10 (x0 x1 x2 x3 x4 x5 x6 x7 x8 x9 x10 : Option D) (st : Sto) : b_s10 [x0, x1, some (.int 3), some (.tup [(.tup [(.str "near"), (.tup [(.int 1), (.int 3)]), (.str "up")]), (.tup [(.str "near"), (.tup [(.int 1), (.int 1)]), (.str "up")])]), some (.tup [(.tup [(.str "near"), (.tup [(.int 1), (.int 3)]), (.str "down")]), (.tup [(.str "near"), (.tup [(.int 1), (.int 1)]), (.str "down")])]), some (.tup [(.tup [(.str "near"), (.tup [(.int 1), (.int 3)]), (.str "down")]), (.tup [(.str "near"), (.tup [(.int 1), (.int 1)]), (.str "up")])]), some (.tup [(.tup [(.str "times"), (.tup [(.int 10), (.int 1)])]), (.tup [(.str "near"), (.tup [(.int 1), (.int 1)]), (.str "up")]), (.tup [(.str "times"), (.tup [(.int 1), (.int 10)])]), (.tup [(.str "near"), (.tup [(.int 1), (.int 1)]), (.str "up")])]), some (.tup [(.str "near"), (.tup [(.int 1), (.int 1)]), (.str "up")]), some (.tup [(.str "near"), (.tup [(.int 1), (.int 3)]), (.str "up")]), some (.tup [(.int (-2)), (.int 3)]), some (.tup [(.int 1), (.int 3)])] st = .nx [x0, x1, some (.int 3), some (.tup [(.tup [(.str "near"), (.tup [(.int 1), (.int 3)]), (.str "up")]), (.tup [(.str "near"), (.tup [(.int 1), (.int 1)]), (.str "up")])]), some (.tup [(.tup [(.str "near"), (.tup [(.int 1), (.int 3)]), (.str "down")]), (.tup [(.str "near"), (.tup [(.int 1), (.int 1)]), (.str "down")])]), some (.tup [(.tup [(.str "near"), (.tup [(.int 1), (.int 3)]), (.str "down")]), (.tup [(.str "near"), (.tup [(.int 1), (.int 1)]), (.str "up")])]), some (.tup [(.tup [(.str "times"), (.tup [(.int 10), (.int 1)])]), (.tup [(.str "near"), (.tup [(.int 1), (.int 1)]), (.str "up")]), (.tup [(.str "times"), (.tup [(.int 1), (.int 10)])]), (.tup [(.str "near"), (.tup [(.int 1), (.int 1)]), (.str "up")])]), some (.tup [(.str "near"), (.tup [(.int 1), (.int 1)]), (.str "up")]), some (.tup [(.str "near"), (.tup [(.int 1), (.int 3)]), (.str "up")]), some (.tup [(.int (-2)), (.int 3)]), some (.tup [(.int 1), (.int 3)])] st := by kernel_rfl
theorem m3_11 (x0 x1 x2 x3 x4 x5 x6 x7 x8 x9 x10 : Option D) (st : Sto) : b_s11 [x0, x1, some (.int 3), some (.tup [(.tup [(.str "near"), (.tup [(.int 1), (.int 3)]), (.str "up")]), (.tup [(.str "near"), (.tup [(.int 1), (.int 1)]), (.str "up")])]), some (.tup [(.tup [(.str "near"), (.tup [(.int 1), (.int 3)]), (.str "down")]), (.tup [(.str "near"), (.tup [(.int 1), (.int 1)]), (.str "down")])]), some (.tup [(.tup [(.str "near"), (.tup [(.int 1), (.int 3)]), (.str "down")]), (.tup [(.str "near"), (.tup [(.int 1), (.int 1)]), (.str "up")])]), some (.tup [(.tup [(.str "times"), (.tup [(.int 10), (.int 1)])]), (.tup [(.str "near"), (.tup [(.int 1), (.int 1)]), (.str "up")]), (.tup [(.str "times"), (.tup [(.int 1), (.int 10)])]), (.tup [(.str "near"), (.tup [(.int 1), (.int 1)]), (.str "up")])]), some (.tup [(.str "near"), (.tup [(.int 1), (.int 1)]), (.str "up")]), some (.tup [(.str "near"), (.tup [(.int 1), (.int 3)]), (.str "up")]), some (.tup [(.int (-2)), (.int 3)]), some (.tup [(.int 1), (.int 3)])] st = .nx [x0, x1, some (.int 3), some (.tup [(.tup [(.str "near"), (.tup [(.int 1), (.int 3)]), (.str "up")]), (.tup [(.str "near"), (.tup [(.int 1), (.int 1)]), (.str "up")])]), some (.tup [(.tup [(.str "near"), (.tup [(.int 1), (.int 3)]), (.str "down")]), (.tup [(.str "near"), (.tup [(.int 1), (.int 1)]), (.str "down")])]), some (.tup [(.tup [(.str "near"), (.tup [(.int 1), (.int 3)]), (.str "down")]), (.tup [(.str "near"), (.tup [(.int 1), (.int 1)]), (.str "up")])]), some (.tup [(.tup [(.str "times"), (.tup [(.int 10), (.int 1)])]), (.tup [(.str "near"), (.tup [(.int 1), (.int 1)]), (.str "up")]), (.tup [(.str "times"), (.tup [(.int 1), (.int 10)])]), (.tup [(.str "near"), (.tup [(.int 1), (.int 1)]), (.str "up")])]), some (.tup [(.str "near"), (.tup [(.int 1), (.int 1)]), (.str "up")]), some (.tup [(.str "near"), (.tup [(.int 1), (.int 3)]), (.str "up")]), some (.tup [(.int (-2)), (.int 3)]), some (.tup [(.int 1), (.int 3)])] st := by kernel_rfl
theorem m3_all (x0 x1 x2 x3 x4 x5 x6 x7 x8 x9 x10 : Option D) (st : Sto) : ∃ y3 y4 y5 y6 y7 y8 y9 y10, (sSeq b_s1 (sSeq b_s2 (sSeq b_s3 (sSeq b_s4 (sSeq b_s5 (sSeq b_s6 (sSeq b_s7 (sSeq b_s8 (sSeq b_s9 (sSeq b_s10 b_s11)))))))))) [x0, x1, some (.int 3), x3, x4, x5, x6, x7, x8, x9, x10] st = .nx [x0, x1, some (.int 3), y3, y4, y5, y6, y7, y8, y9, y10] st := by
  refine ⟨some (.tup [(.tup [(.str "near"), (.tup [(.int 1), (.int 3)]), (.str "up")]), (.tup [(.str "near"), (.tup [(.int 1), (.int 1)]), (.str "up")])]), some (.tup [(.tup [(.str "near"), (.tup [(.int 1), (.int 3)]), (.str "down")]), (.tup [(.str "near"), (.tup [(.int 1), (.int 1)]), (.str "down")])]), some (.tup [(.tup [(.str "near"), (.tup [(.int 1), (.int 3)]), (.str "down")]), (.tup [(.str "near"), (.tup [(.int 1), (.int 1)]), (.str "up")])]), some (.tup [(.tup [(.str "times"), (.tup [(.int 10), (.int 1)])]), (.tup [(.str "near"), (.tup [(.int 1), (.int 1)]), (.str "up")]), (.tup [(.str "times"), (.tup [(.int 1), (.int 10)])]), (.tup [(.str "near"), (.tup [(.int 1), (.int 1)]), (.str "up")])]), some (.tup [(.str "near"), (.tup [(.int 1), (.int 1)]), (.str "up")]), some (.tup [(.str "near"), (.tup [(.int 1), (.int 3)]), (.str "up")]), some (.tup [(.int (-2)), (.int 3)]), some (.tup [(.int 1), (.int 3)]), ?_⟩
  rw [seq_nx (m3_1 x0 x1 x2 x3 x4 x5 x6 x7 x8 x9 x10 st), seq_nx (m3_2 x0 x1 x2 x3 x4 x5 x6 x7 x8 x9 x10 st), seq_nx (m3_3 x0 x1 x2 x3 x4 x5 x6 x7 x8 x9 x10 st), seq_nx (m3_4 x0 x1 x2 x3 x4 x5 x6 x7 x8 x9 x10 st), seq_nx (m3_5 x0 x1 x2 x3 x4 x5 x6 x7 x8 x9 x10 st), seq_nx (m3_6 x0 x1 x2 x3 x4 x5 x6 x7 x8 x9 x10 st), seq_nx (m3_7 x0 x1 x2 x3 x4 x5 x6 x7 x8 x9 x10 st), seq_nx (m3_8 x0 x1 x2 x3 x4 x5 x6 x7 x8 x9 x10 st), seq_nx (m3_9 x0 x1 x2 x3 x4 x5 x6 x7 x8 x9 x10 st), seq_nx (m3_10 x0 x1 x2 x3 x4 x5 x6 x7 x8 x9 x10 st)]
  exact m3_11 x0 x1 x2 x3 x4 x5 x6 x7 x8 x9 x10 st
theorem m4_1 (x0 x1 x2 x3 x4 x5 x6 x7 x8 x9 x10 : Option D) (st : Sto) : b_s1 [x0, x1, some (.int 4), x3, x4, x5, x6, x7, x8, x9, x10] st = .nx [x0, x1, some (.int 4), x3, x4, x5, x6, some (.tup [(.str "near"), (.tup [(.int 1), (.int 1)]), (.str "up")]), some (.tup [(.str "near"), (.tup [(.int 1), (.int 4)]), (.str "up")]), x9, x10] st := by kernel_rfl
theorem m4_2 (x0 x1 x2 x3 x4 x5 x6 x7 x8 x9 x10 : Option D) (st : Sto) : b_s2 [x0, x1, some (.int 4), x3, x4, x5, x6, some (.tup [(.str "near"), (.tup [(.int 1), (.int 1)]), (.str "up")]), some (.tup [(.str "near"), (.tup [(.int 1), (.int 4)]), (.str "up")]), x9, x10] st = .nx [x0, x1, some (.int 4), some (.tup [(.tup [(.str "near"), (.tup [(.int 1), (.int 4)]), (.str "up")]), (.tup [(.str "near"), (.tup [(.int 1), (.int 1)]), (.str "up")])]), x4, x5, x6, some (.tup [(.str "near"), (.tup [(.int 1), (.int 1)]), (.str "up")]), some (.tup [(.str "near"), (.tup [(.int 1), (.int 4)]), (.str "up")]), x9, x10] st := by kernel_rfl
theorem m4_3 (x0 x1 x2 x3 x4 x5 x6 x7 x8 x9 x10 : Option D) (st : Sto) : b_s3 [x0, x1, some (.int 4), some (.tup [(.tup [(.str "near"), (.tup [(.int 1), (.int 4)]), (.str "up")]), (.tup [(.str "near"), (.tup [(.int 1), (.int 1)]), (.str "up")])]), x4, x5, x6, some (.tup [(.str "near"), (.tup [(.int 1), (.int 1)]), (.str "up")]), some (.tup [(.str "near"), (.tup [(.int 1), (.int 4)]), (.str "up")]), x9, x10] st = .nx [x0, x1, some (.int 4), some (.tup [(.tup [(.str "near"), (.tup [(.int 1), (.int 4)]), (.str "up")]), (.tup [(.str "near"), (.tup [(.int 1), (.int 1)]), (.str "up")])]), x4, x5, x6, some (.tup [(.str "near"), (.tup [(.int 1), (.int 1)]), (.str "up")]), some (.tup [(.str "near"), (.tup [(.int 1), (.int 4)]), (.str "up")]), x9, x10] st := by kernel_rfl
theorem m4_4 (x0 x1 x2 x3 x4 x5 x6 x7 x8 x9 x10 : Option D) (st : Sto) : b_s4 [x0, x1, some (.int 4), some (.tup [(.tup [(.str "near"), (.tup [(.int 1), (.int 4)]), (.str "up")]), (.tup [(.str "near"), (.tup [(.int 1), (.int 1)]), (.str "up")])]), x4, x5, x6, some (.tup [(.str "near"), (.tup [(.int 1), (.int 1)]), (.str "up")]), some (.tup [(.str "near"), (.tup [(.int 1), (.int 4)]), (.str "up")]), x9, x10] st = .nx [x0, x1, some (.int 4), some (.tup [(.tup [(.str "near"), (.tup [(.int 1), (.int 4)]), (.str "up")]), (.tup [(.str "near"), (.tup [(.int 1), (.int 1)]), (.str "up")])]), some (.tup [(.tup [(.str "near"), (.tup [(.int 1), (.int 4)]), (.str "down")]), (.tup [(.str "near"), (.tup [(.int 1), (.int 1)]), (.str "down")])]), x5, x6, some (.tup [(.str "near"), (.tup [(.int 1), (.int 1)]), (.str "up")]), some (.tup [(.str "near"), (.tup [(.int 1), (.int 4)]), (.str "up")]), x9, x10] st := by kernel_rfl
theorem m4_5 (x0 x1 x2 x3 x4 x5 x6 x7 x8 x9 x10 : Option D) (st : Sto) : b_s5 [x0, x1, some (.int 4), some (.tup [(.tup [(.str "near"), (.tup [(.int 1), (.int 4)]), (.str "up")]), (.tup [(.str "near"), (.tup [(.int 1), (.int 1)]), (.str "up")])]), some (.tup [(.tup [(.str "near"), (.tup [(.int 1), (.int 4)]), (.str "down")]), (.tup [(.str "near"), (.tup [(.int 1), (.int 1)]), (.str "down")])]), x5, x6, some (.tup [(.str "near"), (.tup [(.int 1), (.int 1)]), (.str "up")]), some (.tup [(.str "near"), (.tup [(.int 1), (.int 4)]), (.str "up")]), x9, x10] st = .nx [x0, x1, some (.int 4), some (.tup [(.tup [(.str "near"), (.tup [(.int 1), (.int 4)]), (.str "up")]), (.tup [(.str "near"), (.tup [(.int 1), (.int 1)]), (.str "up")])]), some (.tup [(.tup [(.str "near"), (.tup [(.int 1), (.int 4)]), (.str "down")]), (.tup [(.str "near"), (.tup [(.int 1), (.int 1)]), (.str "down")])]), x5, x6, some (.tup [(.str "near"), (.tup [(.int 1), (.int 1)]), (.str "up")]), some (.tup [(.str "near"), (.tup [(.int 1), (.int 4)]), (.str "up")]), x9, x10] st := by kernel_rfl
theorem m4_6 (x0 x1 x2 x3 x4 x5 x6 x7 x8 x9 x10 : Option D) (st : Sto) : b_s6 [x0, x1, some (.int 4), some (.tup [(.tup [(.str "near"), (.tup [(.int 1), (.int 4)]), (.str "up")]), (.tup [(.str "near"), (.tup [(.int 1), (.int 1)]), (.str "up")])]), some (.tup [(.tup [(.str "near"), (.tup [(.int 1), (.int 4)]), (.str "down")]), (.tup [(.str "near"), (.tup [(.int 1), (.int 1)]), (.str "down")])]), x5, x6, some (.tup [(.str "near"), (.tup [(.int 1), (.int 1)]), (.str "up")]), some (.tup [(.str "near"), (.tup [(.int 1), (.int 4)]), (.str "up")]), x9, x10] st = .nx [x0, x1, some (.int 4), some (.tup [(.tup [(.str "near"), (.tup [(.int 1), (.int 4)]), (.str "up")]), (.tup [(.str "near"), (.tup [(.int 1), (.int 1)]), (.str "up")])]), some (.tup [(.tup [(.str "near"), (.tup [(.int 1), (.int 4)]), (.str "down")]), (.tup [(.str "near"), (.tup [(.int 1), (.int 1)]), (.str "down")])]), some (.tup [(.tup [(.str "near"), (.tup [(.int 1), (.int 4)]), (.str "down")]), (.tup [(.str "near"), (.tup [(.int 1), (.int 1)]), (.str "up")])]), x6, some (.tup [(.str "near"), (.tup [(.int 1), (.int 1)]), (.str "up")]), some (.tup [(.str "near"), (.tup [(.int 1), (.int 4)]), (.str "up")]), x9, x10] st := by kernel_rfl
theorem m4_7 (x0 x1 x2 x3 x4 x5 x6 x7 x8 x9 x10 : Option D) (st : Sto) : b_s7 [x0, x1, some (.int 4), some (.tup [(.tup [(.str "near"), (.tup [(.int 1), (.int 4)]), (.str "up")]), (.tup [(.str "near"), (.tup [(.int 1), (.int 1)]), (.str "up")])]), some (.tup [(.tup [(.str "near"), (.tup [(.int 1), (.int 4)]), (.str "down")]), (.tup [(.str "near"), (.tup [(.int 1), (.int 1)]), (.str "down")])]), some (.tup [(.tup [(.str "near"), (.tup [(.int 1), (.int 4)]), (.str "down")]), (.tup [(.str "near"), (.tup [(.int 1), (.int 1)]), (.str "up")])]), x6, some (.tup [(.str "near"), (.tup [(.int 1), (.int 1)]), (.str "up")]), some (.tup [(.str "near"), (.tup [(.int 1), (.int 4)]), (.str "up")]), x9, x10] st = .nx [x0, x1, some (.int 4), some (.tup [(.tup [(.str "near"), (.tup [(.int 1), (.int 4)]), (.str "up")]), (.tup [(.str "near"), (.tup [(.int 1), (.int 1)]), (.str "up")])]), some (.tup [(.tup [(.str "near"), (.tup [(.int 1), (.int 4)]), (.str "down")]), (.tup [(.str "near"), (.tup [(.int 1), (.int 1)]), (.str "down")])]), some (.tup [(.tup [(.str "near"), (.tup [(.int 1), (.int 4)]), (.str "down")]), (.tup [(.str "near"), (.tup [(.int 1), (.int 1)]), (.str "up")])]), x6, some (.tup [(.str "near"), (.tup [(.int 1), (.int 1)]), (.str "up")]), some (.tup [(.str "near"), (.tup [(.int 1), (.int 4)]), (.str "up")]), some (.tup [(.int (-5)), (.int 8)]), some (.tup [(.int 3), (.int 8)])] st := by kernel_rfl
theorem m4_8 (x0 x1 x2 x3 x4 x5 x6 x7 x8 x9 x10 : Option D) (st : Sto) : b_s8 [x0, x1, some (.int 4), some (.tup [(.tup [(.str "near"), (.tup [(.int 1), (.int 4)]), (.str "up")]), (.tup [(.str "near"), (.tup [(.int 1), (.int 1)]), (.str "up")])]), some (.tup [(.tup [(.str "near"), (.tup [(.int 1), (.int 4)]), (.str "down")]), (.tup [(.str "near"), (.tup [(.int 1), (.int 1)]), (.str "down")])]), some (.tup [(.tup [(.str "near"), (.tup [(.int 1), (.int 4)]), (.str "down")]), (.tup [(.str "near"), (.tup [(.int 1), (.int 1)]), (.str "up")])]), x6, some (.tup [(.str "near"), (.tup [(.int 1), (.int 1)]), (.str "up")]), some (.tup [(.str "near"), (.tup [(.int 1), (.int 4)]), (.str "up")]), some (.tup [(.int (-5)), (.int 8)]), some (.tup [(.int 3), (.int 8)])] st = .nx [x0, x1, some (.int 4), some (.tup [(.tup [(.str "near"), (.tup [(.int 1), (.int 4)]), (.str "up")]), (.tup [(.str "near"), (.tup [(.int 1), (.int 1)]), (.str "up")])]), some (.tup [(.tup [(.str "near"), (.tup [(.int 1), (.int 4)]), (.str "down")]), (.tup [(.str "near"), (.tup [(.int 1), (.int 1)]), (.str "down")])]), some (.tup [(.tup [(.str "near"), (.tup [(.int 1), (.int 4)]), (.str "down")]), (.tup [(.str "near"), (.tup [(.int 1), (.int 1)]), (.str "up")])]), x6, some (.tup [(.str "near"), (.tup [(.int 1), (.int 1)]), (.str "up")]), some (.tup [(.str "near"), (.tup [(.int 1), (.int 4)]), (.str "up")]), some (.tup [(.int (-5)), (.int 8)]), some (.tup [(.int 3), (.int 8)])] st := by kernel_rfl
theorem m4_9 (x0 x1 x2 x3 x4 x5 x6 x7 x8 x9 x10 : Option D) (st : Sto) : b_s9 [x0, x1, some (.int 4), some (.tup [(.tup [(.str "near"), (.tup [(.int 1), (.int 4)]), (.str "up")]), (.tup [(.str "near"), (.tup [(.int 1), (.int 1)]), (.str "up")])]), some (.tup [(.tup [(.str "near"), (.tup [(.int 1), (.int 4)]), (.str "down")]), (.tup [(.str "near"), (.tup [(.int 1), (.int 1)]), (.str "down")])]), some (.tup [(.tup [(.str "near"), (.tup [(.int 1), (.int 4)]), (.str "down")]), (.tup [(.str "near"), (.tup [(.int 1), (.int 1)]), (.str "up")])]), x6, some (.tup [(.str "near"), (.tup [(.int 1), (.int 1)]), (.str "up")]), some (.tup [(.str "near"), (.tup [(.int 1), (.int 4)]), (.str "up")]), some (.tup [(.int (-5)), (.int 8)]), some (.tup [(.int 3), (.int 8)])] st = .nx [x0, x1, some (.int 4), some (.tup [(.tup [(.str "near"), (.tup [(.int 1), (.int 4)]), (.str "up")]), (.tup [(.str "near"), (.tup [(.int 1), (.int 1)]), (.str "up")])]), some (.tup [(.tup [(.str "near"), (.tup [(.int 1), (.int 4)]), (.str "down")]), (.tup [(.str "near"), (.tup [(.int 1), (.int 1)]), (.str "down")])]), some (.tup [(.tup [(.str "near"), (.tup [(.int 1), (.int 4)]), (.str "down")]), (.tup [(.str "near"), (.tup [(.int 1), (.int 1)]), (.str "up")])]), some (.tup [(.tup [(.str "times"), (.tup [(.int 10), (.int 1)])]), (.tup [(.str "near"), (.tup [(.int 1), (.int 1)]), (.str "up")]), (.tup [(.str "times"), (.tup [(.int 1), (.int 10)])]), (.tup [(.str "near"), (.tup [(.int 1), (.int 1)]), (.str "up")])]), some (.tup [(.str "near"), (.tup [(.int 1), (.int 1)]), (.str "up")]), some (.tup [(.str "near"), (.tup [(.int 1), (.int 4)]), (.str "up")]), some (.tup [(.int (-5)), (.int 8)]), some (.tup [(.int 3), (.int 8)])] st := by kernel_rfl
theorem m4_10 (x0 x1 x2 x3 x4 x5 x6 x7 x8 x9 x10 : Option D) (st : Sto) : b_s10 [x0, x1, some (.int 4), some (.tup [(.tup [(.str "near"), (.tup [(.int 1), (.int 4)]), (.str "up")]), (.tup [(.str "near"), (.tup [(.int 1), (.int 1)]), (.str "up")])]), some (.tup [(.tup [(.str "near"), (.tup [(.int 1), (.int 4)]), (.str "down")]), (.tup [(.str "near"), (.tup [(.int 1), (.int 1)]), (.str "down")])]), some (.tup [(.tup [(.str "near"), (.tup [(.int 1), (.int 4)]), (.str "down")]), (.tup [(.str "near"), (.tup [(.int 1), (.int 1)]), (.str "up")])]), some (.tup [(.tup [(.str "times"), (.tup [(.int 10), (.int 1)])]), (.tup [(.str "near"), (.tup [(.int 1), (.int 1)]), (.str "up")]), (.tup [(.str "times"), (.tup [(.int 1), (.int 10)])]), (.tup [(.str "near"), (.tup [(.int 1), (.int 1)]), (.str "up")])]), some (.tup [(.str "near"), (.tup [(.int 1), (.int 1)]), (.str "up")]), some (.tup [(.str "near"), (.tup [(.int 1), (.int 4)]), (.str "up")]), some (.tup [(.int (-5)), (.int 8)]), some (.tup [(.int 3), (.int 8)])] st = .nx [x0, x1, some (.int 4), some (.tup [(.tup [(.str "near"), (.tup [(.int 1), (.int 4)]), (.str "up")]), (.tup [(.str "near"), (.tup [(.int 1), (.int 1)]), (.str "up")])]), some (.tup [(.tup [(.str "near"), (.tup [(.int 1), (.int 4)]), (.str "down")]), (.tup [(.str "near"), (.tup [(.int 1), (.int 1)]), (.str "down")])]), some (.tup [(.tup [(.str "near"), (.tup [(.int 1), (.int 4)]), (.str "down")]), (.tup [(.str "near"), (.tup [(.int 1), (.int 1)]), (.str "up")])]), some (.tup [(.tup [(.str "times"), (.tup [(.int 10), (.int 1)])]), (.tup [(.str "near"), (.tup [(.int 1), (.int 1)]), (.str "up")]), (.tup [(.str "times"), (.tup [(.int 1), (.int 10)])]), (.tup [(.str "near"), (.tup [(.int 1), (.int 1)]), (.str "up")])]), some (.tup [(.str "near"), (.tup [(.int 1), (.int 1)]), (.str "up")]), some (.tup [(.str "near"), (.tup [(.int 1), (.int 4)]), (.str "up")]), some (.tup [(.int (-5)), (.int 8)]), some (.tup [(.int 3), (.int 8)])] st := by kernel_rfl
theorem m4_11 (x0 x1 x2 x3 x4 x5 x6 x7 x8 x9 x10 : Option D) (st : Sto) : b_s11 [x0, x1, some (.int 4), some (.tup [(.tup [(.str "near"), (.tup [(.int 1), (.int 4)]), (.str "up")]), (.tup [(.str "near"), (.tup [(.int 1), (.int 1)]), (.str "up")])]), some (.tup [(.tup [(.str "near"), (.tup [(.int 1), (.int 4)]), (.str "down")]), (.tup [(.str "near"), (.tup [(.int 1), (.int 1)]), (.str "down")])]), some (.tup [(.tup [(.str "near"), (.tup [(.int 1), (.int 4)]), (.str "down")]), (.tup [(.str "near"), (.tup [(.int 1), (.int 1)]), (.str "up")])]), some (.tup [(.tup [(.str "times"), (.tup [(.int 10), (.int 1)])]), (.tup [(.str "near"), (.tup [(.int 1), (.int 1)]), (.str "up")]), (.tup [(.str "times"), (.tup [(.int 1), (.int 10)])]), (.tup [(.str "near"), (.tup [(.int 1), (.int 1)]), (.str "up")])]), some (.tup [(.str "near"), (.tup [(.int 1), (.int 1)]), (.str "up")]), some (.tup [(.str "near"), (.tup [(.int 1), (.int 4)]), (.str "up")]), some (.tup [(.int (-5)), (.int 8)]), some (.tup [(.int 3), (.int 8)])] st = .nx [x0, x1, some (.int 4), some (.tup [(.tup [(.str "near"), (.tup [(.int 1), (.int 4)]), (.str "up")]), (.tup [(.str "near"), (.tup [(.int 1), (.int 1)]), (.str "up")])]), some (.tup [(.tup [(.str "near"), (.tup [(.int 1), (.int 4)]), (.str "down")]), (.tup [(.str "near"), (.tup [(.int 1), (.int 1)]), (.str "down")])]), some (.tup [(.tup [(.str "near"), (.tup [(.int 1), (.int 4)]), (.str "down")]), (.tup [(.str "near"), (.tup [(.int 1), (.int 1)]), (.str "up")])]), some (.tup [(.tup [(.str "times"), (.tup [(.int 10), (.int 1)])]), (.tup [(.str "near"), (.tup [(.int 1), (.int 1)]), (.str "up")]), (.tup [(.str "times"), (.tup [(.int 1), (.int 10)])]), (.tup [(.str "near"), (.tup [(.int 1), (.int 1)]), (.str "up")])]), some (.tup [(.str "near"), (.tup [(.int 1), (.int 1)]), (.str "up")]), some (.tup [(.str "near"), (.tup [(.int 1), (.int 4)]), (.str "up")]), some (.tup [(.int (-5)), (.int 8)]), some (.tup [(.int 3), (.int 8)])] st := by kernel_rfl
theorem m4_all (x0 x1 x2 x3 x4 x5 x6 x7 x8 x9 x10 : Option D) (st : Sto) : ∃ y3 y4 y5 y6 y7 y8 y9 y10, (sSeq b_s1 (sSeq b_s2 (sSeq b_s3 (sSeq b_s4 (sSeq b_s5 (sSeq b_s6 (sSeq b_s7 (sSeq b_s8 (sSeq b_s9 (sSeq b_s10 b_s11)))))))))) [x0, x1, some (.int 4), x3, x4, x5, x6, x7, x8, x9, x10] st = .nx [x0, x1, some (.int 4), y3, y4, y5, y6, y7, y8, y9, y10] st := by
  refine ⟨some (.tup [(.tup [(.str "near"), (.tup [(.int 1), (.int 4)]), (.str "up")]), (.tup [(.str "near"), (.tup [(.int 1), (.int 1)]), (.str "up")])]), some (.tup [(.tup [(.str "near"), (.tup [(.int 1), (.int 4)]), (.str "down")]), (.tup [(.str "near"), (.tup [(.int 1), (.int 1)]), (.str "down")])]), some (.tup [(.tup [(.str "near"), (.tup [(.int 1), (.int 4)]), (.str "down")]), (.tup [(.str "near"), (.tup [(.int 1), (.int 1)]), (.str "up")])]), some (.tup [(.tup [(.str "times"), (.tup [(.int 10), (.int 1)])]), (.tup [(.str "near"), (.tup [(.int 1), (.int 1)]), (.str "up")]), (.tup [(.str "times"), (.tup [(.int 1), (.int 10)])]), (.tup [(.str "near"), (.tup [(.int 1), (.int 1)]), (.str "up")])]), some (.tup [(.str "near"), (.tup [(.int 1), (.int 1)]), (.str "up")]), some (.tup [(.str "near"), (.tup [(.int 1), (.int 4)]), (.str "up")]), some (.tup [(.int (-5)), (.int 8)]), some (.tup [(.int 3), (.int 8)]), ?_⟩
  rw [seq_nx (m4_1 x0 x1 x2 x3 x4 x5 x6 x7 x8 x9 x10 st), seq_nx (m4_2 x0 x1 x2 x3 x4 x5 x6 x7 x8 x9 x10 st), seq_nx (m4_3 x0 x1 x2 x3 x4 x5 x6 x7 x8 x9 x10 st), seq_nx (m4_4 x0 x1 x2 x3 x4 x5 x6 x7 x8 x9 x10 st), seq_nx (m4_5 x0 x1 x2 x3 x4 x5 x6 x7 x8 x9 x10 st), seq_nx (m4_6 x0 x1 x2 x3 x4 x5 x6 x7 x8 x9 x10 st), seq_nx (m4_7 x0 x1 x2 x3 x4 x5 x6 x7 x8 x9 x10 st), seq_nx (m4_8 x0 x1 x2 x3 x4 x5 x6 x7 x8 x9 x10 st), seq_nx (m4_9 x0 x1 x2 x3 x4 x5 x6 x7 x8 x9 x10 st), seq_nx (m4_10 x0 x1 x2 x3 x4 x5 x6 x7 x8 x9 x10 st)]
  exact m4_11 x0 x1 x2 x3 x4 x5 x6 x7 x8 x9 x10 st
theorem m5_1 (x0 x1 x2 x3 x4 x5 x6 x7 x8 x9 x10 : Option D) (st : Sto) : b_s1 [x0, x1, some (.int 5), x3, x4, x5, x6, x7, x8, x9, x10] st = .nx [x0, x1, some (.int 5), x3, x4, x5, x6, some (.tup [(.str "near"), (.tup [(.int 1), (.int 1)]), (.str "up")]), some (.tup [(.str "near"), (.tup [(.int 1), (.int 5)]), (.str "up")]), x9, x10] st := by kernel_rfl
theorem m5_2 (x0 x1 x2 x3 x4 x5 x6 x7 x8 x9 x10 : Option D) (st : Sto) : b_s2 [x0, x1, some (.int 5), x3, x4, x5, x6, some (.tup [(.str "near"), (.tup [(.int 1), (.int 1)]), (.str "up")]), some (.tup [(.str "near"), (.tup [(.int 1), (.int 5)]), (.str "up")]), x9, x10] st = .nx [x0, x1, some (.int 5), some (.tup [(.tup [(.str "near"), (.tup [(.int 1), (.int 5)]), (.str "up")]), (.tup [(.str "near"), (.tup [(.int 1), (.int 1)]), (.str "up")])]), x4, x5, x6, some (.tup [(.str "near"), (.tup [(.int 1), (.int 1)]), (.str "up")]), some (.tup [(.str "near"), (.tup [(.int 1), (.int 5)]), (.str "up")]), x9, x10] st := by kernel_rfl
theorem m5_3 (x0 x1 x2 x3 x4 x5 x6 x7 x8 x9 x10 : Option D) (st : Sto) : b_s3 [x0, x1, some (.int 5), some (.tup [(.tup [(.str "near"), (.tup [(.int 1), (.int 5)]), (.str "up")]), (.tup [(.str "near"), (.tup [(.int 1), (.int 1)]), (.str "up")])]), x4, x5, x6, some (.tup [(.str "near"), (.tup [(.int 1), (.int 1)]), (.str "up")]), some (.tup [(.str "near"), (.tup [(.int 1), (.int 5)]), (.str "up")]), x9, x10] st = .nx [x0, x1, some (.int 5), some (.tup [(.tup [(.str "near"), (.tup [(.int 1), (.int 5)]), (.str "up")]), (.tup [(.str "near"), (.tup [(.int 1), (.int 1)]), (.str "up")])]), x4, x5, x6, some (.tup [(.str "near"), (.tup [(.int 1), (.int 1)]), (.str "up")]), some (.tup [(.str "near"), (.tup [(.int 1), (.int 5)]), (.str "up")]), x9, x10] st := by kernel_rfl
theorem m5_4 (x0 x1 x2 x3 x4 x5 x6 x7 x8 x9 x10 : Option D) (st : Sto) : b_s4 [x0, x1, some (.int 5), some (.tup [(.tup [(.str "near"), (.tup [(.int 1), (.int 5)]), (.str "up")]), (.tup [(.str "near"), (.tup [(.int 1), (.int 1)]), (.str "up")])]), x4, x5, x6, some (.tup [(.str "near"), (.tup [(.int 1), (.int 1)]), (.str "up")]), some (.tup [(.str "near"), (.tup [(.int 1), (.int 5)]), (.str "up")]), x9, x10] st = .nx [x0, x1, some (.int 5), some (.tup [(.tup [(.str "near"), (.tup [(.int 1), (.int 5)]), (.str "up")]), (.tup [(.str "near"), (.tup [(.int 1), (.int 1)]), (.str "up")])]), some (.tup [(.tup [(.str "near"), (.tup [(.int 1), (.int 5)]), (.str "down")]), (.tup [(.str "near"), (.tup [(.int 1), (.int 1)]), (.str "down")])]), x5, x6, some (.tup [(.str "near"), (.tup [(.int 1), (.int 1)]), (.str "up")]), some (.tup [(.str "near"), (.tup [(.int 1), (.int 5)]), (.str "up")]), x9, x10] st := by kernel_rfl
theorem m5_5 (x0 x1 x2 x3 x4 x5 x6 x7 x8 x9 x10 : Option D) (st : Sto) : b_s5 [x0, x1, some (.int 5), some (.tup [(.tup [(.str "near"), (.tup [(.int 1), (.int 5)]), (.str "up")]), (.tup [(.str "near"), (.tup [(.int 1), (.int 1)]), (.str "up")])]), some (.tup [(.tup [(.str "near"), (.tup [(.int 1), (.int 5)]), (.str "down")]), (.tup [(.str "near"), (.tup [(.int 1), (.int 1)]), (.str "down")])]), x5, x6, some (.tup [(.str "near"), (.tup [(.int 1), (.int 1)]), (.str "up")]), some (.tup [(.str "near"), (.tup [(.int 1), (.int 5)]), (.str "up")]), x9, x10] st = .nx [x0, x1, some (.int 5), some (.tup [(.tup [(.str "near"), (.tup [(.int 1), (.int 5)]), (.str "up")]), (.tup [(.str "near"), (.tup [(.int 1), (.int 1)]), (.str "up")])]), some (.tup [(.tup [(.str "near"), (.tup [(.int 1), (.int 5)]), (.str "down")]), (.tup [(.str "near"), (.tup [(.int 1), (.int 1)]), (.str "down")])]), x5, x6, some (.tup [(.str "near"), (.tup [(.int 1), (.int 1)]), (.str "up")]), some (.tup [(.str "near"), (.tup [(.int 1), (.int 5)]), (.str "up")]), x9, x10] st := by kernel_rfl
theorem m5_6 (x0 x1 x2 x3 x4 x5 x6 x7 x8 x9 x10 : Option D) (st : Sto) : b_s6 [x0, x1, some (.int 5), some (.tup [(.tup [(.str "near"), (.tup [(.int 1), (.int 5)]), (.str "up")]), (.tup [(.str "near"), (.tup [(.int 1), (.int 1)]), (.str "up")])]), some (.tup [(.tup [(.str "near"), (.tup [(.int 1), (.int 5)]), (.str "down")]), (.tup [(.str "near"), (.tup [(.int 1), (.int 1)]), (.str "down")])]), x5, x6, some (.tup [(.str "near"), (.tup [(.int 1), (.int 1)]), (.str "up")]), some (.tup [(.str "near"), (.tup [(.int 1), (.int 5)]), (.str "up")]), x9, x10] st = .nx [x0, x1, some (.int 5), some (.tup [(.tup [(.str "near"), (.tup [(.int 1), (.int 5)]), (.str "up")]), (.tup [(.str "near"), (.tup [(.int 1), (.int 1)]), (.str "up")])]), some (.tup [(.tup [(.str "near"), (.tup [(.int 1), (.int 5)]), (.str "down")]), (.tup [(.str "near"), (.tup [(.int 1), (.int 1)]), (.str "down")])]), some (.tup [(.tup [(.str "near"), (.tup [(.int 1), (.int 5)]), (.str "down")]), (.tup [(.str "near"), (.tup [(.int 1), (.int 1)]), (.str "up")])]), x6, some (.tup [(.str "near"), (.tup [(.int 1), (.int 1)]), (.str "up")]), some (.tup [(.str "near"), (.tup [(.int 1), (.int 5)]), (.str "up")]), x9, x10] st := by kernel_rfl
theorem m5_7 (x0 x1 x2 x3 x4 x5 x6 x7 x8 x9 x10 : Option D) (st : Sto) : b_s7 [x0, x1, some (.int 5), some (.tup [(.tup [(.str "near"), (.tup [(.int 1), (.int 5)]), (.str "up")]), (.tup [(.str "near"), (.tup [(.int 1), (.int 1)]), (.str "up")])]), some (.tup [(.tup [(.str "near"), (.tup [(.int 1), (.int 5)]), (.str "down")]), (.tup [(.str "near"), (.tup [(.int 1), (.int 1)]), (.str "down")])]), some (.tup [(.tup [(.str "near"), (.tup [(.int 1), (.int 5)]), (.str "down")]), (.tup [(.str "near"), (.tup [(.int 1), (.int 1)]), (.str "up")])]), x6, some (.tup [(.str "near"), (.tup [(.int 1), (.int 1)]), (.str "up")]), some (.tup [(.str "near"), (.tup [(.int 1), (.int 5)]), (.str "up")]), x9, x10] st = .nx [x0, x1, some (.int 5), some (.tup [(.tup [(.str "near"), (.tup [(.int 1), (.int 5)]), (.str "up")]), (.tup [(.str "near"), (.tup [(.int 1), (.int 1)]), (.str "up")])]), some (.tup [(.tup [(.str "near"), (.tup [(.int 1), (.int 5)]), (.str "down")]), (.tup [(.str "near"), (.tup [(.int 1), (.int 1)]), (.str "down")])]), some (.tup [(.tup [(.str "near"), (.tup [(.int 1), (.int 5)]), (.str "down")]), (.tup [(.str "near"), (.tup [(.int 1), (.int 1)]), (.str "up")])]), x6, some (.tup [(.str "near"), (.tup [(.int 1), (.int 1)]), (.str "up")]), some (.tup [(.str "near"), (.tup [(.int 1), (.int 5)]), (.str "up")]), some (.tup [(.int (-3)), (.int 5)]), some (.tup [(.int 2), (.int 5)])] st := by kernel_rfl
theorem m5_8 (x0 x1 x2 x3 x4 x5 x6 x7 x8 x9 x10 : Option D) (st : Sto) : b_s8 [x0, x1, some (.int 5), some (.tup [(.tup [(.str "near"), (.tup [(.int 1), (.int 5)]), (.str "up")]), (.tup [(.str "near"), (.tup [(.int 1), (.int 1)]), (.str "up")])]), some (.tup [(.tup [(.str "near"), (.tup [(.int 1), (.int 5)]), (.str "down")]), (.tup [(.str "near"), (.tup [(.int 1), (.int 1)]), (.str "down")])]), some (.tup [(.tup [(.str "near"), (.tup [(.int 1), (.int 5)]), (.str "down")]), (.tup [(.str "near"), (.tup [(.int 1), (.int 1)]), (.str "up")])]), x6, some (.tup [(.str "near"), (.tup [(.int 1), (.int 1)]), (.str "up")]), some (.tup [(.str "near"), (.tup [(.int 1), (.int 5)]), (.str "up")]), some (.tup [(.int (-3)), (.int 5)]), some (.tup [(.int 2), (.int 5)])] st = .nx [x0, x1, some (.int 5), some (.tup [(.tup [(.str "near"), (.tup [(.int 1), (.int 5)]), (.str "up")]), (.tup [(.str "near"), (.tup [(.int 1), (.int 1)]), (.str "up")])]), some (.tup [(.tup [(.str "near"), (.tup [(.int 1), (.int 5)]), (.str "down")]), (.tup [(.str "near"), (.tup [(.int 1), (.int 1)]), (.str "down")])]), some (.tup [(.tup [(.str "near"), (.tup [(.int 1), (.int 5)]), (.str "down")]), (.tup [(.str "near"), (.tup [(.int 1), (.int 1)]), (.str "up")])]), x6, some (.tup [(.str "near"), (.tup [(.int 1), (.int 1)]), (.str "up")]), some (.tup [(.str "near"), (.tup [(.int 1), (.int 5)]), (.str "up")]), some (.tup [(.int (-3)), (.int 5)]), some (.tup [(.int 2), (.int 5)])] st := by kernel_rfl
theorem m5_9 (x0 x1 x2 x3 x4 x5 x6 x7 x8 x9 x10 : Option D) (st : Sto) : b_s9 [x0, x1, some (.int 5), some (.tup [(.tup [(.str "near"), (.tup [(.int 1), (.int 5)]), (.str "up")]), (.tup [(.str "near"), (.tup [(.int 1), (.int 1)]), (.str "up")])]), some (.tup [(.tup [(.str "near"), (.tup [(.int 1), (.int 5)]), (.str "down")]), (.tup [(.str "near"), (.tup [(.int 1), (.int 1)]), (.str "down")])]), some (.tup [(.tup [(.str "near"), (.tup [(.int 1), (.int 5)]), (.str "down")]), (.tup [(.str "near"), (.tup [(.int 1), (.int 1)]), (.str "up")])]), x6, some (.tup [(.str "near"), (.tup [(.int 1), (.int 1)]), (.str "up")]), some (.tup [(.str "near"), (.tup [(.int 1), (.int 5)]), (.str "up")]), some (.tup [(.int (-3)), (.int 5)]), some (.tup [(.int 2), (.int 5)])] st = .nx [x0, x1, some (.int 5), some (.tup [(.tup [(.str "near"), (.tup [(.int 1), (.int 5)]), (.str "up")]), (.tup [(.str "near"), (.tup [(.int 1), (.int 1)]), (.str "up")])]), some (.tup [(.tup [(.str "near"), (.tup [(.int 1), (.int 5)]), (.str "down")]), (.tup [(.str "near"), (.tup [(.int 1), (.int 1)]), (.str "down")])]), some (.tup [(.tup [(.str "near"), (.tup [(.int 1), (.int 5)]), (.str "down")]), (.tup [(.str "near"), (.tup [(.int 1), (.int 1)]), (.str "up")])]), some (.tup [(.tup [(.str "times"), (.tup [(.int 10), (.int 1)])]), (.tup [(.str "near"), (.tup [(.int 1), (.int 1)]), (.str "up")]), (.tup [(.str "times"), (.tup [(.int 1), (.int 10)])]), (.tup [(.str "near"), (.tup [(.int 1), (.int 1)]), (.str "up")])]), some (.tup [(.str "near"), (.tup [(.int 1), (.int 1)]), (.str "up")]), some (.tup [(.str "near"), (.tup [(.int 1), (.int 5)]), (.str "up")]), some (.tup [(.int (-3)), (.int 5)]), some (.tup [(.int 2), (.int 5)])] st := by kernel_rfl
theorem m5_10 (x0 x1 x2 x3 x4 x5 x6 x7 x8 x9 x10 : Option D) (st : Sto) : b_s10 [x0, x1, some (.int 5), some (.tup [(.tup [(.str "near"), (.tup [(.int 1), (.int 5)]), (.str "up")]), (.tup [(.str "near"), (.tup [(.int 1), (.int 1)]), (.str "up")])]), some (.tup [(.tup [(.str "near"), (.tup [(.int 1), (.int 5)]), (.str "down")]), (.tup [(.str "near"), (.tup [(.int 1), (.int 1)]), (.str "down")])]), some (.tup [(.tup [(.str "near"), (.tup [(.int 1), (.int 5)]), (.str "down")]), (.tup [(.str "near"), (.tup [(.int 1), (.int 1)]), (.str "up")])]), some (.tup [(.tup [(.str "times"), (.tup [(.int 10), (.int 1)])]), (.tup [(.str "near"), (.tup [(.int 1), (.int 1)]), (.str "up")]), (.tup [(.str "times"), (.tup [(.int 1), (.int 10)])]), (.tup [(.str "near"), (.tup [(.int 1), (.int 1)]), (.str "up")])]), some (.tup [(.str "near"), (.tup [(.int 1), (.int 1)]), (.str "up")]), some (.tup [(.str "near"), (.tup [(.int 1), (.int 5)]), (.str "up")]), some (.tup [(.int (-3)), (.int 5)]), some (.tup [(.int 2), (.int 5)])] st = .nx [x0, x1, some (.int 5), some (.tup [(.tup [(.str "near"), (.tup [(.int 1), (.int 5)]), (.str "up")]), (.tup [(.str "near"), (.tup [(.int 1), (.int 1)]), (.str "up")])]), some (.tup [(.tup [(.str "near"), (.tup [(.int 1), (.int 5)]), (.str "down")]), (.tup [(.str "near"), (.tup [(.int 1), (.int 1)]), (.str "down")])]), some (.tup [(.tup [(.str "near"), (.tup [(.int 1), (.int 5)]), (.str "down")]), (.tup [(.str "near"), (.tup [(.int 1), (.int 1)]), (.str "up")])]), some (.tup [(.tup [(.str "times"), (.tup [(.int 10), (.int 1)])]), (.tup [(.str "near"), (.tup [(.int 1), (.int 1)]), (.str "up")]), (.tup [(.str "times"), (.tup [(.int 1), (.int 10)])]), (.tup [(.str "near"), (.tup [(.int 1), (.int 1)]), (.str "up")])]), some (.tup [(.str "near"), (.tup [(.int 1), (.int 1)]), (.str "up")]), some (.tup [(.str "near"), (.tup [(.int 1), (.int 5)]), (.str "up")]), some (.tup [(.int (-3)), (.int 5)]), some (.tup [(.int 2), (.int 5)])] st := by kernel_rfl
theorem m5_11 (x0 x1 x2 x3 x4 x5 x6 x7 x8 x9 x10 : Option D) (st : Sto) : b_s11 [x0, x1, some (.int 5), some (.tup [(.tup [(.str "near"), (.tup [(.int 1), (.int 5)]), (.str "up")]), (.tup [(.str "near"), (.tup [(.int 1), (.int 1)]), (.str "up")])]), some (.tup [(.tup [(.str "near"), (.tup [(.int 1), (.int 5)]), (.str "down")]), (.tup [(.str "near"), (.tup [(.int 1), (.int 1)]), (.str "down")])]), some (.tup [(.tup [(.str "near"), (.tup [(.int 1), (.int 5)]), (.str "down")]), (.tup [(.str "near"), (.tup [(.int 1), (.int 1)]), (.str "up")])]), some (.tup [(.tup [(.str "times"), (.tup [(.int 10), (.int 1)])]), (.tup [(.str "near"), (.tup [(.int 1), (.int 1)]), (.str "up")]), (.tup [(.str "times"), (.tup [(.int 1), (.int 10)])]), (.tup [(.str "near"), (.tup [(.int 1), (.int 1)]), (.str "up")])]), some (.tup [(.str "near"), (.tup [(.int 1), (.int 1)]), (.str "up")]), some (.tup [(.str "near"), (.tup [(.int 1), (.int 5)]), (.str "up")]), some (.tup [(.int (-3)), (.int 5)]), some (.tup [(.int 2), (.int 5)])] st = .nx [x0, x1, some (.int 5), some (.tup [(.tup [(.str "near"), (.tup [(.int 1), (.int 5)]), (.str "up")]), (.tup [(.str "near"), (.tup [(.int 1), (.int 1)]), (.str "up")])]), some (.tup [(.tup [(.str "near"), (.tup [(.int 1), (.int 5)]), (.str "down")]), (.tup [(.str "near"), (.tup [(.int 1), (.int 1)]), (.str "down")])]), some (.tup [(.tup [(.str "near"), (.tup [(.int 1), (.int 5)]), (.str "down")]), (.tup [(.str "near"), (.tup [(.int 1), (.int 1)]), (.str "up")])]), some (.tup [(.tup [(.str "times"), (.tup [(.int 10), (.int 1)])]), (.tup [(.str "near"), (.tup [(.int 1), (.int 1)]), (.str "up")]), (.tup [(.str "times"), (.tup [(.int 1), (.int 10)])]), (.tup [(.str "near"), (.tup [(.int 1), (.int 1)]), (.str "up")])]), some (.tup [(.str "near"), (.tup [(.int 1), (.int 1)]), (.str "up")]), some (.tup [(.str "near"), (.tup [(.int 1), (.int 5)]), (.str "up")]), some (.tup [(.int (-3)), (.int 5)]), some (.tup [(.int 2), (.int 5)])] st := by kernel_rfl
theorem m5_all (x0 x1 x2 x3 x4 x5 x6 x7 x8 x9 x10 : Option D) (st : Sto) : ∃ y3 y4 y5 y6 y7 y8 y9 y10, (sSeq b_s1 (sSeq b_s2 (sSeq b_s3 (sSeq b_s4 (sSeq b_s5 (sSeq b_s6 (sSeq b_s7 (sSeq b_s8 (sSeq b_s9 (sSeq b_s10 b_s11)))))))))) [x0, x1, some (.int 5), x3, x4, x5, x6, x7, x8, x9, x10] st = .nx [x0, x1, some (.int 5), y3, y4, y5, y6, y7, y8, y9, y10] st := by
  refine ⟨some (.tup [(.tup [(.str "near"), (.tup [(.int 1), (.int 5)]), (.str "up")]), (.tup [(.str "near"), (.tup [(.int 1), (.int 1)]), (.str "up")])]), some (.tup [(.tup [(.str "near"), (.tup [(.int 1), (.int 5)]), (.str "down")]), (.tup [(.str "near"), (.tup [(.int 1), (.int 1)]), (.str "down")])]), some (.tup [(.tup [(.str "near"), (.tup [(.int 1), (.int 5)]), (.str "down")]), (.tup [(.str "near"), (.tup [(.int 1), (.int 1)]), (.str "up")])]), some (.tup [(.tup [(.str "times"), (.tup [(.int 10), (.int 1)])]), (.tup [(.str "near"), (.tup [(.int 1), (.int 1)]), (.str "up")]), (.tup [(.str "times"), (.tup [(.int 1), (.int 10)])]), (.tup [(.str "near"), (.tup [(.int 1), (.int 1)]), (.str "up")])]), some (.tup [(.str "near"), (.tup [(.int 1), (.int 1)]), (.str "up")]), some (.tup [(.str "near"), (.tup [(.int 1), (.int 5)]), (.str "up")]), some (.tup [(.int (-3)), (.int 5)]), some (.tup [(.int 2), (.int 5)]), ?_⟩
  rw [seq_nx (m5_1 x0 x1 x2 x3 x4 x5 x6 x7 x8 x9 x10 st), seq_nx (m5_2 x0 x1 x2 x3 x4 x5 x6 x7 x8 x9 x10 st), seq_nx (m5_3 x0 x1 x2 x3 x4 x5 x6 x7 x8 x9 x10 st), seq_nx (m5_4 x0 x1 x2 x3 x4 x5 x6 x7 x8 x9 x10 st), seq_nx (m5_5 x0 x1 x2 x3 x4 x5 x6 x7 x8 x9 x10 st), seq_nx (m5_6 x0 x1 x2 x3 x4 x5 x6 x7 x8 x9 x10 st), seq_nx (m5_7 x0 x1 x2 x3 x4 x5 x6 x7 x8 x9 x10 st), seq_nx (m5_8 x0 x1 x2 x3 x4 x5 x6 x7 x8 x9 x10 st), seq_nx (m5_9 x0 x1 x2 x3 x4 x5 x6 x7 x8 x9 x10 st), seq_nx (m5_10 x0 x1 x2 x3 x4 x5 x6 x7 x8 x9 x10 st)]
  exact m5_11 x0 x1 x2 x3 x4 x5 x6 x7 x8 x9 x10 st
theorem m6_1 (x0 x1 x2 x3 x4 x5 x6 x7 x8 x9 x10 : Option D) (st : Sto) : b_s1 [x0, x1, some (.int 6), x3, x4, x5, x6, x7, x8, x9, x10] st = .nx [x0, x1, some (.int 6), x3, x4, x5, x6, some (.tup [(.str "near"), (.tup [(.int 1), (.int 1)]), (.str "up")]), some (.tup [(.str "near"), (.tup [(.int 1), (.int 6)]), (.str "up")]), x9, x10] st := by kernel_rfl
theorem m6_2 (x0 x1 x2 x3 x4 x5 x6 x7 x8 x9 x10 : Option D) (st : Sto) : b_s2 [x0, x1, some (.int 6), x3, x4, x5, x6, some (.tup [(.str "near"), (.tup [(.int 1), (.int 1)]), (.str "up")]), some (.tup [(.str "near"), (.tup [(.int 1), (.int 6)]), (.str "up")]), x9, x10] st = .nx [x0, x1, some (.int 6), some (.tup [(.tup [(.str "near"), (.tup [(.int 1), (.int 6)]), (.str "up")]), (.tup [(.str "near"), (.tup [(.int 1), (.int 1)]), (.str "up")])]), x4, x5, x6, some (.tup [(.str "near"), (.tup [(.int 1), (.int 1)]), (.str "up")]), some (.tup [(.str "near"), (.tup [(.int 1), (.int 6)]), (.str "up")]), x9, x10] st := by kernel_rfl
theorem m6_3 (x0 x1 x2 x3 x4 x5 x6 x7 x8 x9 x10 : Option D) (st : Sto) : b_s3 [x0, x1, some (.int 6), some (.tup [(.tup [(.str "near"), (.tup [(.int 1), (.int 6)]), (.str "up")]), (.tup [(.str "near"), (.tup [(.int 1), (.int 1)]), (.str "up")])]), x4, x5, x6, some (.tup [(.str "near"), (.tup [(.int 1), (.int 1)]), (.str "up")]), some (.tup [(.str "near"), (.tup [(.int 1), (.int 6)]), (.str "up")]), x9, x10] st = .nx [x0, x1, some (.int 6), some (.tup [(.tup [(.str "near"), (.tup [(.int 1), (.int 6)]), (.str "up")]), (.tup [(.str "near"), (.tup [(.int 1), (.int 1)]), (.str "up")])]), x4, x5, x6, some (.tup [(.str "near"), (.tup [(.int 1), (.int 1)]), (.str "up")]), some (.tup [(.str "near"), (.tup [(.int 1), (.int 6)]), (.str "up")]), x9, x10] st := by kernel_rfl
theorem m6_4 (x0 x1 x2 x3 x4 x5 x6 x7 x8 x9 x10 : Option D) (st : Sto) : b_s4 [x0, x1, some (.int 6), some (.tup [(.tup [(.str "near"), (.tup [(.int 1), (.int 6)]), (.str "up")]), (.tup [(.str "near"), (.tup [(.int 1), (.int 1)]), (.str "up")])]), x4, x5, x6, some (.tup [(.str "near"), (.tup [(.int 1), (.int 1)]), (.str "up")]), some (.tup [(.str "near"), (.tup [(.int 1), (.int 6)]), (.str "up")]), x9, x10] st = .nx [x0, x1, some (.int 6), some (.tup [(.tup [(.str "near"), (.tup [(.int 1), (.int 6)]), (.str "up")]), (.tup [(.str "near"), (.tup [(.int 1), (.int 1)]), (.str "up")])]), some (.tup [(.tup [(.str "near"), (.tup [(.int 1), (.int 6)]), (.str "down")]), (.tup [(.str "near"), (.tup [(.int 1), (.int 1)]), (.str "down")])]), x5, x6, some (.tup [(.str "near"), (.tup [(.int 1), (.int 1)]), (.str "up")]), some (.tup [(.str "near"), (.tup [(.int 1), (.int 6)]), (.str "up")]), x9, x10] st := by kernel_rfl
theorem m6_5 (x0 x1 x2 x3 x4 x5 x6 x7 x8 x9 x10 : Option D) (st : Sto) : b_s5 [x0, x1, some (.int 6), some (.tup [(.tup [(.str "near"), (.tup [(.int 1), (.int 6)]), (.str "up")]), (.tup [(.str "near"), (.tup [(.int 1), (.int 1)]), (.str "up")])]), some (.tup [(.tup [(.str "near"), (.tup [(.int 1), (.int 6)]), (.str "down")]), (.tup [(.str "near"), (.tup [(.int 1), (.int 1)]), (.str "down")])]), x5, x6, some (.tup [(.str "near"), (.tup [(.int 1), (.int 1)]), (.str "up")]), some (.tup [(.str "near"), (.tup [(.int 1), (.int 6)]), (.str "up")]), x9, x10] st = .nx [x0, x1, some (.int 6), some (.tup [(.tup [(.str "near"), (.tup [(.int 1), (.int 6)]), (.str "up")]), (.tup [(.str "near"), (.tup [(.int 1), (.int 1)]), (.str "up")])]), some (.tup [(.tup [(.str "near"), (.tup [(.int 1), (.int 6)]), (.str "down")]), (.tup [(.str "near"), (.tup [(.int 1), (.int 1)]), (.str "down")])]), x5, x6, some (.tup [(.str "near"), (.tup [(.int 1), (.int 1)]), (.str "up")]), some (.tup [(.str "near"), (.tup [(.int 1), (.int 6)]), (.str "up")]), x9, x10] st := by kernel_rfl
theorem m6_6 (x0 x1 x2 x3 x4 x5 x6 x7 x8 x9 x10 : Option D) (st : Sto) : b_s6 [x0, x1, some (.int 6), some (.tup [(.tup [(.str "near"), (.tup [(.int 1), (.int 6)]), (.str "up")]), (.tup [(.str "near"), (.tup [(.int 1), (.int 1)]), (.str "up")])]), some (.tup [(.tup [(.str "near"), (.tup [(.int 1), (.int 6)]), (.str "down")]), (.tup [(.str "near"), (.tup [(.int 1), (.int 1)]), (.str "down")])]), x5, x6, some (.tup [(.str "near"), (.tup [(.int 1), (.int 1)]), (.str "up")]), some (.tup [(.str "near"), (.tup [(.int 1), (.int 6)]), (.str "up")]), x9, x10] st = .nx [x0, x1, some (.int 6), some (.tup [(.tup [(.str "near"), (.tup [(.int 1), (.int 6)]), (.str "up")]), (.tup [(.str "near"), (.tup [(.int 1), (.int 1)]), (.str "up")])]), some (.tup [(.tup [(.str "near"), (.tup [(.int 1), (.int 6)]), (.str "down")]), (.tup [(.str "near"), (.tup [(.int 1), (.int 1)]), (.str "down")])]), some (.tup [(.tup [(.str "near"), (.tup [(.int 1), (.int 6)]), (.str "down")]), (.tup [(.str "near"), (.tup [(.int 1), (.int 1)]), (.str "up")])]), x6, some (.tup [(.str "near"), (.tup [(.int 1), (.int 1)]), (.str "up")]), some (.tup [(.str "near"), (.tup [(.int 1), (.int 6)]), (.str "up")]), x9, x10] st := by kernel_rfl
theorem m6_7 (x0 x1 x2 x3 x4 x5 x6 x7 x8 x9 x10 : Option D) (st : Sto) : b_s7 [x0, x1, some (.int 6), some (.tup [(.tup [(.str "near"), (.tup [(.int 1), (.int 6)]), (.str "up")]), (.tup [(.str "near"), (.tup [(.int 1), (.int 1)]), (.str "up")])]), some (.tup [(.tup [(.str "near"), (.tup [(.int 1), (.int 6)]), (.str "down")]), (.tup [(.str "near"), (.tup [(.int 1), (.int 1)]), (.str "down")])]), some (.tup [(.tup [(.str "near"), (.tup [(.int 1), (.int 6)]), (.str "down")]), (.tup [(.str "near"), (.tup [(.int 1), (.int 1)]), (.str "up")])]), x6, some (.tup [(.str "near"), (.tup [(.int 1), (.int 1)]), (.str "up")]), some (.tup [(.str "near"), (.tup [(.int 1), (.int 6)]), (.str "up")]), x9, x10] st = .nx [x0, x1, some (.int 6), some (.tup [(.tup [(.str "near"), (.tup [(.int 1), (.int 6)]), (.str "up")]), (.tup [(.str "near"), (.tup [(.int 1), (.int 1)]), (.str "up")])]), some (.tup [(.tup [(.str "near"), (.tup [(.int 1), (.int 6)]), (.str "down")]), (.tup [(.str "near"), (.tup [(.int 1), (.int 1)]), (.str "down")])]), some (.tup [(.tup [(.str "near"), (.tup [(.int 1), (.int 6)]), (.str "down")]), (.tup [(.str "near"), (.tup [(.int 1), (.int 1)]), (.str "up")])]), x6, some (.tup [(.str "near"), (.tup [(.int 1), (.int 1)]), (.str "up")]), some (.tup [(.str "near"), (.tup [(.int 1), (.int 6)]), (.str "up")]), some (.tup [(.int (-7)), (.int 12)]), some (.tup [(.int 5), (.int 12)])] st := by kernel_rfl
theorem m6_8 (x0 x1 x2 x3 x4 x5 x6 x7 x8 x9 x10 : Option D) (st : Sto) : b_s8 [x0, x1, some (.int 6), some (.tup [(.tup [(.str "near"), (.tup [(.int 1), (.int 6)]), (.str "up")]), (.tup [(.str "near"), (.tup [(.int 1), (.int 1)]), (.str "up")])]), some (.tup [(.tup [(.str "near"), (.tup [(.int 1), (.int 6)]), (.str "down")]), (.tup [(.str "near"), (.tup [(.int 1), (.int 1)]), (.str "down")])]), some (.tup [(.tup [(.str "near"), (.tup [(.int 1), (.int 6)]), (.str "down")]), (.tup [(.str "near"), (.tup [(.int 1), (.int 1)]), (.str "up")])]), x6, some (.tup [(.str "near"), (.tup [(.int 1), (.int 1)]), (.str "up")]), some (.tup [(.str "near"), (.tup [(.int 1), (.int 6)]), (.str "up")]), some (.tup [(.int (-7)), (.int 12)]), some (.tup [(.int 5), (.int 12)])] st = .nx [x0, x1, some (.int 6), some (.tup [(.tup [(.str "near"), (.tup [(.int 1), (.int 6)]), (.str "up")]), (.tup [(.str "near"), (.tup [(.int 1), (.int 1)]), (.str "up")])]), some (.tup [(.tup [(.str "near"), (.tup [(.int 1), (.int 6)]), (.str "down")]), (.tup [(.str "near"), (.tup [(.int 1), (.int 1)]), (.str "down")])]), some (.tup [(.tup [(.str "near"), (.tup [(.int 1), (.int 6)]), (.str "down")]), (.tup [(.str "near"), (.tup [(.int 1), (.int 1)]), (.str "up")])]), x6, some (.tup [(.str "near"), (.tup [(.int 1), (.int 1)]), (.str "up")]), some (.tup [(.str "near"), (.tup [(.int 1), (.int 6)]), (.str "up")]), some (.tup [(.int (-7)), (.int 12)]), some (.tup [(.int 5), (.int 12)])] st := by kernel_rfl
theorem m6_9 (x0 x1 x2 x3 x4 x5 x6 x7 x8 x9 x10 : Option D) (st : Sto) : b_s9 [x0, x1, some (.int 6), some (.tup [(.tup [(.str "near"), (.tup [(.int 1), (.int 6)]), (.str "up")]), (.tup [(.str "near"), (.tup [(.int 1), (.int 1)]), (.str "up")])]), some (.tup [(.tup [(.str "near"), (.tup [(.int 1), (.int 6)]), (.str "down")]), (.tup [(.str "near"), (.tup [(.int 1), (.int 1)]), (.str "down")])]), some (.tup [(.tup [(.str "near"), (.tup [(.int 1), (.int 6)]), (.str "down")]), (.tup [(.str "near"), (.tup [(.int 1), (.int 1)]), (.str "up")])]), x6, some (.tup [(.str "near"), (.tup [(.int 1), (.int 1)]), (.str "up")]), some (.tup [(.str "near"), (.tup [(.int 1), (.int 6)]), (.str "up")]), some (.tup [(.int (-7)), (.int 12)]), some (.tup [(.int 5), (.int 12)])] st = .nx [x0, x1, some (.int 6), some (.tup [(.tup [(.str "near"), (.tup [(.int 1), (.int 6)]), (.str "up")]), (.tup [(.str "near"), (.tup [(.int 1), (.int 1)]), (.str "up")])]), some (.tup [(.tup [(.str "near"), (.tup [(.int 1), (.int 6)]), (.str "down")]), (.tup [(.str "near"), (.tup [(.int 1), (.int 1)]), (.str "down")])]), some (.tup [(.tup [(.str "near"), (.tup [(.int 1), (.int 6)]), (.str "down")]), (.tup [(.str "near"), (.tup [(.int 1), (.int 1)]), (.str "up")])]), some (.tup [(.tup [(.str "times"), (.tup [(.int 10), (.int 1)])]), (.tup [(.str "near"), (.tup [(.int 1), (.int 1)]), (.str "up")]), (.tup [(.str "times"), (.tup [(.int 1), (.int 10)])]), (.tup [(.str "near"), (.tup [(.int 1), (.int 1)]), (.str "up")])]), some (.tup [(.str "near"), (.tup [(.int 1), (.int 1)]), (.str "up")]), some (.tup [(.str "near"), (.tup [(.int 1), (.int 6)]), (.str "up")]), some (.tup [(.int (-7)), (.int 12)]), some (.tup [(.int 5), (.int 12)])] st := by kernel_rfl
theorem m6_10 (x0 x1 x2 x3 x4 x5 x6 x7 x8 x9 x10 : Option D) (st : Sto) : b_s10 [x0, x1, some (.int 6), some (.tup [(.tup [(.str "near"), (.tup [(.int 1), (.int 6)]), (.str "up")]), (.tup [(.str "near"), (.tup [(.int 1), (.int 1)]), (.str "up")])]), some (.tup [(.tup [(.str "near"), (.tup [(.int 1), (.int 6)]), (.str "down")]), (.tup [(.str "near"), (.tup [(.int 1), (.int 1)]), (.str "down")])]), some (.tup [(.tup [(.str "near"), (.tup [(.int 1), (.int 6)]), (.str "down")]), (.tup [(.str "near"), (.tup [(.int 1), (.int 1)]), (.str "up")])]), some (.tup [(.tup [(.str "times"), (.tup [(.int 10), (.int 1)])]), (.tup [(.str "near"), (.tup [(.int 1), (.int 1)]), (.str "up")]), (.tup [(.str "times"), (.tup [(.int 1), (.int 10)])]), (.tup [(.str "near"), (.tup [(.int 1), (.int 1)]), (.str "up")])]), some (.tup [(.str "near"), (.tup [(.int 1), (.int 1)]), (.str "up")]), some (.tup [(.str "near"), (.tup [(.int 1), (.int 6)]), (.str "up")]), some (.tup [(.int (-7)), (.int 12)]), some (.tup [(.int 5), (.int 12)])] st = .nx [x0, x1, some (.int 6), some (.tup [(.tup [(.str "near"), (.tup [(.int 1), (.int 6)]), (.str "up")]), (.tup [(.str "near"), (.tup [(.int 1), (.int 1)]), (.str "up")])]), some (.tup [(.tup [(.str "near"), (.tup [(.int 1), (.int 6)]), (.str "down")]), (.tup [(.str "near"), (.tup [(.int 1), (.int 1)]), (.str "down")])]), some (.tup [(.tup [(.str "near"), (.tup [(.int 1), (.int 6)]), (.str "down")]), (.tup [(.str "near"), (.tup [(.int 1), (.int 1)]), (.str "up")])]), some (.tup [(.tup [(.str "times"), (.tup [(.int 10), (.int 1)])]), (.tup [(.str "near"), (.tup [(.int 1), (.int 1)]), (.str "up")]), (.tup [(.str "times"), (.tup [(.int 1), (.int 10)])]), (.tup [(.str "near"), (.tup [(.int 1), (.int 1)]), (.str "up")])]), some (.tup [(.str "near"), (.tup [(.int 1), (.int 1)]), (.str "up")]), some (.tup [(.str "near"), (.tup [(.int 1), (.int 6)]), (.str "up")]), some (.tup [(.int (-7)), (.int 12)]), some (.tup [(.int 5), (.int 12)])] st := by kernel_rfl
theorem m6_11 (x0 x1 x2 x3 x4 x5 x6 x7 x8 x9 x10 : Option D) (st : Sto) : b_s11 [x0, x1, some (.int 6), some (.tup [(.tup [(.str "near"), (.tup [(.int 1), (.int 6)]), (.str "up")]), (.tup [(.str "near"), (.tup [(.int 1), (.int 1)]), (.str "up")])]), some (.tup [(.tup [(.str "near"), (.tup [(.int 1), (.int 6)]), (.str "down")]), (.tup [(.str "near"), (.tup [(.int 1), (.int 1)]), (.str "down")])]), some (.tup [(.tup [(.str "near"), (.tup [(.int 1), (.int 6)]), (.str "down")]), (.tup [(.str "near"), (.tup [(.int 1), (.int 1)]), (.str "up")])]), some (.tup [(.tup [(.str "times"), (.tup [(.int 10), (.int 1)])]), (.tup [(.str "near"), (.tup [(.int 1), (.int 1)]), (.str "up")]), (.tup [(.str "times"), (.tup [(.int 1), (.int 10)])]), (.tup [(.str "near"), (.tup [(.int 1), (.int 1)]), (.str "up")])]), some (.tup [(.str "near"), (.tup [(.int 1), (.int 1)]), (.str "up")]), some (.tup [(.str "near"), (.tup [(.int 1), (.int 6)]), (.str "up")]), some (.tup [(.int (-7)), (.int 12)]), some (.tup [(.int 5), (.int 12)])] st = .nx [x0, x1, some (.int 6), some (.tup [(.tup [(.str "near"), (.tup [(.int 1), (.int 6)]), (.str "up")]), (.tup [(.str "near"), (.tup [(.int 1), (.int 1)]), (.str "up")])]), some (.tup [(.tup [(.str "near"), (.tup [(.int 1), (.int 6)]), (.str "down")]), (.tup [(.str "near"), (.tup [(.int 1), (.int 1)]), (.str "down")])]), some (.tup [(.tup [(.str "near"), (.tup [(.int 1), (.int 6)]), (.str "down")]), (.tup [(.str "near"), (.tup [(.int 1), (.int 1)]), (.str "up")])]), some (.tup [(.tup [(.str "times"), (.tup [(.int 10), (.int 1)])]), (.tup [(.str "near"), (.tup [(.int 1), (.int 1)]), (.str "up")]), (.tup [(.str "times"), (.tup [(.int 1), (.int 10)])]), (.tup [(.str "near"), (.tup [(.int 1), (.int 1)]), (.str "up")])]), some (.tup [(.str "near"), (.tup [(.int 1), (.int 1)]), (.str "up")]), some (.tup [(.str "near"), (.tup [(.int 1), (.int 6)]), (.str "up")]), some (.tup [(.int (-7)), (.int 12)]), some (.tup [(.int 5), (.int 12)])] st := by kernel_rfl
theorem m6_all (x0 x1 x2 x3 x4 x5 x6 x7 x8 x9 x10 : Option D) (st : Sto) : ∃ y3 y4 y5 y6 y7 y8 y9 y10, (sSeq b_s1 (sSeq b_s2 (sSeq b_s3 (sSeq b_s4 (sSeq b_s5 (sSeq b_s6 (sSeq b_s7 (sSeq b_s8 (sSeq b_s9 (sSeq b_s10 b_s11)))))))))) [x0, x1, some (.int 6), x3, x4, x5, x6, x7, x8, x9, x10] st = .nx [x0, x1, some (.int 6), y3, y4, y5, y6, y7, y8, y9, y10] st := by
  refine ⟨some (.tup [(.tup [(.str "near"), (.tup [(.int 1), (.int 6)]), (.str "up")]), (.tup [(.str "near"), (.tup [(.int 1), (.int 1)]), (.str "up")])]), some (.tup [(.tup [(.str "near"), (.tup [(.int 1), (.int 6)]), (.str "down")]), (.tup [(.str "near"), (.tup [(.int 1), (.int 1)]), (.str "down")])]), some (.tup [(.tup [(.str "near"), (.tup [(.int 1), (.int 6)]), (.str "down")]), (.tup [(.str "near"), (.tup [(.int 1), (.int 1)]), (.str "up")])]), some (.tup [(.tup [(.str "times"), (.tup [(.int 10), (.int 1)])]), (.tup [(.str "near"), (.tup [(.int 1), (.int 1)]), (.str "up")]), (.tup [(.str "times"), (.tup [(.int 1), (.int 10)])]), (.tup [(.str "near"), (.tup [(.int 1), (.int 1)]), (.str "up")])]), some (.tup [(.str "near"), (.tup [(.int 1), (.int 1)]), (.str "up")]), some (.tup [(.str "near"), (.tup [(.int 1), (.int 6)]), (.str "up")]), some (.tup [(.int (-7)), (.int 12)]), some (.tup [(.int 5), (.int 12)]), ?_⟩
  rw [seq_nx (m6_1 x0 x1 x2 x3 x4 x5 x6 x7 x8 x9 x10 st), seq_nx (m6_2 x0 x1 x2 x3 x4 x5 x6 x7 x8 x9 x10 st), seq_nx (m6_3 x0 x1 x2 x3 x4 x5 x6 x7 x8 x9 x10 st), seq_nx (m6_4 x0 x1 x2 x3 x4 x5 x6 x7 x8 x9 x10 st), seq_nx (m6_5 x0 x1 x2 x3 x4 x5 x6 x7 x8 x9 x10 st), seq_nx (m6_6 x0 x1 x2 x3 x4 x5 x6 x7 x8 x9 x10 st), seq_nx (m6_7 x0 x1 x2 x3 x4 x5 x6 x7 x8 x9 x10 st), seq_nx (m6_8 x0 x1 x2 x3 x4 x5 x6 x7 x8 x9 x10 st), seq_nx (m6_9 x0 x1 x2 x3 x4 x5 x6 x7 x8 x9 x10 st), seq_nx (m6_10 x0 x1 x2 x3 x4 x5 x6 x7 x8 x9 x10 st)]
  exact m6_11 x0 x1 x2 x3 x4 x5 x6 x7 x8 x9 x10 st
theorem m7_1 (x0 x1 x2 x3 x4 x5 x6 x7 x8 x9 x10 : Option D) (st : Sto) : b_s1 [x0, x1, some (.int 7), x3, x4, x5, x6, x7, x8, x9, x10] st = .nx [x0, x1, some (.int 7), x3, x4, x5, x6, some (.tup [(.str "near"), (.tup [(.int 1), (.int 1)]), (.str "up")]), some (.tup [(.str "near"), (.tup [(.int 1), (.int 7)]), (.str "up")]), x9, x10] st := by kernel_rfl
theorem m7_2 (x0 x1 x2 x3 x4 x5 x6 x7 x8 x9 x10 : Option D) (st : Sto) : b_s2 [x0, x1, some (.int 7), x3, x4, x5, x6, some (.tup [(.str "near"), (.tup [(.int 1), (.int 1)]), (.str "up")]), some (.tup [(.str "near"), (.tup [(.int 1), (.int 7)]), (.str "up")]), x9, x10] st = .nx [x0, x1, some (.int 7), some (.tup [(.tup [(.str "near"), (.tup [(.int 1), (.int 7)]), (.str "up")]), (.tup [(.str "near"), (.tup [(.int 1), (.int 1)]), (.str "up")])]), x4, x5, x6, some (.tup [(.str "near"), (.tup [(.int 1), (.int 1)]), (.str "up")]), some (.tup [(.str "near"), (.tup [(.int 1), (.int 7)]), (.str "up")]), x9, x10] st := by kernel_rfl
theorem m7_3 (x0 x1 x2 x3 x4 x5 x6 x7 x8 x9 x10 : Option D) (st : Sto) : b_s3 [x0, x1, some (.int 7), some (.tup [(.tup [(.str "near"), (.tup [(.int 1), (.int 7)]), (.str "up")]), (.tup [(.str "near"), (.tup [(.int 1), (.int 1)]), (.str "up")])]), x4, x5, x6, some (.tup [(.str "near"), (.tup [(.int 1), (.int 1)]), (.str "up")]), some (.tup [(.str "near"), (.tup [(.int 1), (.int 7)]), (.str "up")]), x9, x10] st = .nx [x0, x1, some (.int 7), some (.tup [(.tup [(.str "near"), (.tup [(.int 1), (.int 7)]), (.str "up")]), (.tup [(.str "near"), (.tup [(.int 1), (.int 1)]), (.str "up")])]), x4, x5, x6, some (.tup [(.str "near"), (.tup [(.int 1), (.int 1)]), (.str "up")]), some (.tup [(.str "near"), (.tup [(.int 1), (.int 7)]), (.str "up")]), x9, x10] st := by kernel_rfl
theorem m7_4 (x0 x1 x2 x3 x4 x5 x6 x7 x8 x9 x10 : Option D) (st : Sto) : b_s4 [x0, x1, some (.int 7), some (.tup [(.tup [(.str "near"), (.tup [(.int 1), (.int 7)]), (.str "up")]), (.tup [(.str "near"), (.tup [(.int 1), (.int 1)]), (.str "up")])]), x4, x5, x6, some (.tup [(.str "near"), (.tup [(.int 1), (.int 1)]), (.str "up")]), some (.tup [(.str "near"), (.tup [(.int 1), (.int 7)]), (.str "up")]), x9, x10] st = .nx [x0, x1, some (.int 7), some (.tup [(.tup [(.str "near"), (.tup [(.int 1), (.int 7)]), (.str "up")]), (.tup [(.str "near"), (.tup [(.int 1), (.int 1)]), (.str "up")])]), some (.tup [(.tup [(.str "near"), (.tup [(.int 1), (.int 7)]), (.str "down")]), (.tup [(.str "near"), (.tup [(.int 1), (.int 1)]), (.str "down")])]), x5, x6, some (.tup [(.str "near"), (.tup [(.int 1), (.int 1)]), (.str "up")]), some (.tup [(.str "near"), (.tup [(.int 1), (.int 7)]), (.str "up")]), x9, x10] st := by kernel_rfl
theorem m7_5 (x0 x1 x2 x3 x4 x5 x6 x7 x8 x9 x10 : Option D) (st : Sto) : b_s5 [x0, x1, some (.int 7), some (.tup [(.tup [(.str "near"), (.tup [(.int 1), (.int 7)]), (.str "up")]), (.tup [(.str "near"), (.tup [(.int 1), (.int 1)]), (.str "up")])]), some (.tup [(.tup [(.str "near"), (.tup [(.int 1), (.int 7)]), (.str "down")]), (.tup [(.str "near"), (.tup [(.int 1), (.int 1)]), (.str "down")])]), x5, x6, some (.tup [(.str "near"), (.tup [(.int 1), (.int 1)]), (.str "up")]), some (.tup [(.str "near"), (.tup [(.int 1), (.int 7)]), (.str "up")]), x9, x10] st = .nx [x0, x1, some (.int 7), some (.tup [(.tup [(.str "near"), (.tup [(.int 1), (.int 7)]), (.str "up")]), (.tup [(.str "near"), (.tup [(.int 1), (.int 1)]), (.str "up")])]), some (.tup [(.tup [(.str "near"), (.tup [(.int 1), (.int 7)]), (.str "down")]), (.tup [(.str "near"), (.tup [(.int 1), (.int 1)]), (.str "down")])]), x5, x6, some (.tup [(.str "near"), (.tup [(.int 1), (.int 1)]), (.str "up")]), some (.tup [(.str "near"), (.tup [(.int 1), (.int 7)]), (.str "up")]), x9, x10] st := by kernel_rfl
theorem m7_6 (x0 x1 x2 x3 x4 x5 x6 x7 x8 x9 x10 : Option D) (st : Sto) : b_s6 [x0, x1, some (.int 7), some (.tup [(.tup [(.str "near"), (.tup [(.int 1), (.int 7)]), (.str "up")]), (.tup [(.str "near"), (.tup [(.int 1), (.int 1)]), (.str "up")])]), some (.tup [(.tup [(.str "near"), (.tup [(.int 1), (.int 7)]), (.str "down")]), (.tup [(.str "near"), (.tup [(.int 1), (.int 1)]), (.str "down")])]), x5, x6, some (.tup [(.str "near"), (.tup [(.int 1), (.int 1)]), (.str "up")]), some (.tup [(.str "near"), (.tup [(.int 1), (.int 7)]), (.str "up")]), x9, x10] st = .nx [x0, x1, some (.int 7), some (.tup [(.tup [(.str "near"), (.tup [(.int 1), (.int 7)]), (.str "up")]), (.tup [(.str "near"), (.tup [(.int 1), (.int 1)]), (.str "up")])]), some (.tup [(.tup [(.str "near"), (.tup [(.int 1), (.int 7)]), (.str "down")]), (.tup [(.str "near"), (.tup [(.int 1), (.int 1)]), (.str "down")])]), some (.tup [(.tup [(.str "near"), (.tup [(.int 1), (.int 7)]), (.str "down")]), (.tup [(.str "near"), (.tup [(.int 1), (.int 1)]), (.str "up")])]), x6, some (.tup [(.str "near"), (.tup [(.int 1), (.int 1)]), (.str "up")]), some (.tup [(.str "near"), (.tup [(.int 1), (.int 7)]), (.str "up")]), x9, x10] st := by kernel_rfl
theorem m7_7 (x0 x1 x2 x3 x4 x5 x6 x7 x8 x9 x10 : Option D) (st : Sto) : b_s7 [x0, x1, some (.int 7), some (.tup [(.tup [(.str "near"), (.tup [(.int 1), (.int 7)]), (.str "up")]), (.tup [(.str "near"), (.tup [(.int 1), (.int 1)]), (.str "up")])]), some (.tup [(.tup [(.str "near"), (.tup [(.int 1), (.int 7)]), (.str "down")]), (.tup [(.str "near"), (.tup [(.int 1), (.int 1)]), (.str "down")])]), some (.tup [(.tup [(.str "near"), (.tup [(.int 1), (.int 7)]), (.str "down")]), (.tup [(.str "near"), (.tup [(.int 1), (.int 1)]), (.str "up")])]), x6, some (.tup [(.str "near"), (.tup [(.int 1), (.int 1)]), (.str "up")]), some (.tup [(.str "near"), (.tup [(.int 1), (.int 7)]), (.str "up")]), x9, x10] st = .nx [x0, x1, some (.int 7), some (.tup [(.tup [(.str "near"), (.tup [(.int 1), (.int 7)]), (.str "up")]), (.tup [(.str "near"), (.tup [(.int 1), (.int 1)]), (.str "up")])]), some (.tup [(.tup [(.str "near"), (.tup [(.int 1), (.int 7)]), (.str "down")]), (.tup [(.str "near"), (.tup [(.int 1), (.int 1)]), (.str "down")])]), some (.tup [(.tup [(.str "near"), (.tup [(.int 1), (.int 7)]), (.str "down")]), (.tup [(.str "near"), (.tup [(.int 1), (.int 1)]), (.str "up")])]), x6, some (.tup [(.str "near"), (.tup [(.int 1), (.int 1)]), (.str "up")]), some (.tup [(.str "near"), (.tup [(.int 1), (.int 7)]), (.str "up")]), some (.tup [(.int (-4)), (.int 7)]), some (.tup [(.int 3), (.int 7)])] st := by kernel_rfl
theorem m7_8 (x0 x1 x2 x3 x4 x5 x6 x7 x8 x9 x10 : Option D) (st : Sto) : b_s8 [x0, x1, some (.int 7), some (.tup [(.tup [(.str "near"), (.tup [(.int 1), (.int 7)]), (.str "up")]), (.tup [(.str "near"), (.tup [(.int 1), (.int 1)]), (.str "up")])]), some (.tup [(.tup [(.str "near"), (.tup [(.int 1), (.int 7)]), (.str "down")]), (.tup [(.str "near"), (.tup [(.int 1), (.int 1)]), (.str "down")])]), some (.tup [(.tup [(.str "near"), (.tup [(.int 1), (.int 7)]), (.str "down")]), (.tup [(.str "near"), (.tup [(.int 1), (.int 1)]), (.str "up")])]), x6, some (.tup [(.str "near"), (.tup [(.int 1), (.int 1)]), (.str "up")]), some (.tup [(.str "near"), (.tup [(.int 1), (.int 7)]), (.str "up")]), some (.tup [(.int (-4)), (.int 7)]), some (.tup [(.int 3), (.int 7)])] st = .nx [x0, x1, some (.int 7), some (.tup [(.tup [(.str "near"), (.tup [(.int 1), (.int 7)]), (.str "up")]), (.tup [(.str "near"), (.tup [(.int 1), (.int 1)]), (.str "up")])]), some (.tup [(.tup [(.str "near"), (.tup [(.int 1), (.int 7)]), (.str "down")]), (.tup [(.str "near"), (.tup [(.int 1), (.int 1)]), (.str "down")])]), some (.tup [(.tup [(.str "near"), (.tup [(.int 1), (.int 7)]), (.str "down")]), (.tup [(.str "near"), (.tup [(.int 1), (.int 1)]), (.str "up")])]), x6, some (.tup [(.str "near"), (.tup [(.int 1), (.int 1)]), (.str "up")]), some (.tup [(.str "near"), (.tup [(.int 1), (.int 7)]), (.str "up")]), some (.tup [(.int (-4)), (.int 7)]), some (.tup [(.int 3), (.int 7)])] st := by kernel_rfl
theorem m7_9 (x0 x1 x2 x3 x4 x5 x6 x7 x8 x9 x10 : Option D) (st : Sto) : b_s9 [x0, x1, some (.int 7), some (.tup [(.tup [(.str "near"), (.tup [(.int 1), (.int 7)]), (.str "up")]), (.tup [(.str "near"), (.tup [(.int 1), (.int 1)]), (.str "up")])]), some (.tup [(.tup [(.str "near"), (.tup [(.int 1), (.int 7)]), (.str "down")]), (.tup [(.str "near"), (.tup [(.int 1), (.int 1)]), (.str "down")])]), some (.tup [(.tup [(.str "near"), (.tup [(.int 1), (.int 7)]), (.str "down")]), (.tup [(.str "near"), (.tup [(.int 1), (.int 1)]), (.str "up")])]), x6, some (.tup [(.str "near"), (.tup [(.int 1), (.int 1)]), (.str "up")]), some (.tup [(.str "near"), (.tup [(.int 1), (.int 7)]), (.str "up")]), some (.tup [(.int (-4)), (.int 7)]), some (.tup [(.int 3), (.int 7)])] st = .nx [x0, x1, some (.int 7), some (.tup [(.tup [(.str "near"), (.tup [(.int 1), (.int 7)]), (.str "up")]), (.tup [(.str "near"), (.tup [(.int 1), (.int 1)]), (.str "up")])]), some (.tup [(.tup [(.str "near"), (.tup [(.int 1), (.int 7)]), (.str "down")]), (.tup [(.str "near"), (.tup [(.int 1), (.int 1)]), (.str "down")])]), some (.tup [(.tup [(.str "near"), (.tup [(.int 1), (.int 7)]), (.str "down")]), (.tup [(.str "near"), (.tup [(.int 1), (.int 1)]), (.str "up")])]), some (.tup [(.tup [(.str "times"), (.tup [(.int 10), (.int 1)])]), (.tup [(.str "near"), (.tup [(.int 1), (.int 1)]), (.str "up")]), (.tup [(.str "times"), (.tup [(.int 1), (.int 10)])]), (.tup [(.str "near"), (.tup [(.int 1), (.int 1)]), (.str "up")])]), some (.tup [(.str "near"), (.tup [(.int 1), (.int 1)]), (.str "up")]), some (.tup [(.str "near"), (.tup [(.int 1), (.int 7)]), (.str "up")]), some (.tup [(.int (-4)), (.int 7)]), some (.tup [(.int 3), (.int 7)])] st := by kernel_rfl
theorem m7_10 (x0 x1 x2 x3 x4 x5 x6 x7 x8 x9 x10 : Option D) (st : Sto) : b_s10 [x0, x1, some (.int 7), some (.tup [(.tup [(.str "near"), (.tup [(.int 1), (.int 7)]), (.str "up")]), (.tup [(.str "near"), (.tup [(.int 1), (.int 1)]), (.str "up")])]), some (.tup [(.tup [(.str "near"), (.tup [(.int 1), (.int 7)]), (.str "down")]), (.tup [(.str "near"), (.tup [(.int 1), (.int 1)]), (.str "down")])]), some (.tup [(.tup [(.str "near"), (.tup [(.int 1), (.int 7)]), (.str "down")]), (.tup [(.str "near"), (.tup [(.int 1), (.int 1)]), (.str "up")])]), some (.tup [(.tup [(.str "times"), (.tup [(.int 10), (.int 1)])]), (.tup [(.str "near"), (.tup [(.int 1), (.int 1)]), (.str "up")]), (.tup [(.str "times"), (.tup [(.int 1), (.int 10)])]), (.tup [(.str "near"), (.tup [(.int 1), (.int 1)]), (.str "up")])]), some (.tup [(.str "near"), (.tup [(.int 1), (.int 1)]), (.str "up")]), some (.tup [(.str "near"), (.tup [(.int 1), (.int 7)]), (.str "up")]), some (.tup [(.int (-4)), (.int 7)]), some (.tup [(.int 3), (.int 7)])] st = .nx [x0, x1, some (.int 7), some (.tup [(.tup [(.str "near"), (.tup [(.int 1), (.int 7)]), (.str "up")]), (.tup [(.str "near"), (.tup [(.int 1), (.int 1)]), (.str "up")])]), some (.tup [(.tup [(.str "near"), (.tup [(.int 1), (.int 7)]), (.str "down")]), (.tup [(.str "near"), (.tup [(.int 1), (.int 1)]), (.str "down")])]), some (.tup [(.tup [(.str "near"), (.tup [(.int 1), (.int 7)]), (.str "down")]), (.tup [(.str "near"), (.tup [(.int 1), (.int 1)]), (.str "up")])]), some (.tup [(.tup [(.str "times"), (.tup [(.int 10), (.int 1)])]), (.tup [(.str "near"), (.tup [(.int 1), (.int 1)]), (.str "up")]), (.tup [(.str "times"), (.tup [(.int 1), (.int 10)])]), (.tup [(.str "near"), (.tup [(.int 1), (.int 1)]), (.str "up")])]), some (.tup [(.str "near"), (.tup [(.int 1), (.int 1)]), (.str "up")]), some (.tup [(.str "near"), (.tup [(.int 1), (.int 7)]), (.str "up")]), some (.tup [(.int (-4)), (.int 7)]), some (.tup [(.int 3), (.int 7)])] st := by kernel_rfl
theorem m7_11 (x0 x1 x2 x3 x4 x5 x6 x7 x8 x9 x10 : Option D) (st : Sto) : b_s11 [x0, x1, some (.int 7), some (.tup [(.tup [(.str "near"), (.tup [(.int 1), (.int 7)]), (.str "up")]), (.tup [(.str "near"), (.tup [(.int 1), (.int 1)]), (.str "up")])]), some (.tup [(.tup [(.str "near"), (.tup [(.int 1), (.int 7)]), (.str "down")]), (.tup [(.str "near"), (.tup [(.int 1), (.int 1)]), (.str "down")])]), some (.tup [(.tup [(.str "near"), (.tup [(.int 1), (.int 7)]), (.str "down")]), (.tup [(.str "near"), (.tup [(.int 1), (.int 1)]), (.str "up")])]), some (.tup [(.tup [(.str "times"), (.tup [(.int 10), (.int 1)])]), (.tup [(.str "near"), (.tup [(.int 1), (.int 1)]), (.str "up")]), (.tup [(.str "times"), (.tup [(.int 1), (.int 10)])]), (.tup [(.str "near"), (.tup [(.int 1), (.int 1)]), (.str "up")])]), some (.tup [(.str "near"), (.tup [(.int 1), (.int 1)]), (.str "up")]), some (.tup [(.str "near"), (.tup [(.int 1), (.int 7)]), (.str "up")]), some (.tup [(.int (-4)), (.int 7)]), some (.tup [(.int 3), (.int 7)])] st = .nx [x0, x1, some (.int 7), some (.tup [(.tup [(.str "near"), (.tup [(.int 1), (.int 7)]), (.str "up")]), (.tup [(.str "near"), (.tup [(.int 1), (.int 1)]), (.str "up")])]), some (.tup [(.tup [(.str "near"), (.tup [(.int 1), (.int 7)]), (.str "down")]), (.tup [(.str "near"), (.tup [(.int 1), (.int 1)]), (.str "down")])]), some (.tup [(.tup [(.str "near"), (.tup [(.int 1), (.int 7)]), (.str "down")]), (.tup [(.str "near"), (.tup [(.int 1), (.int 1)]), (.str "up")])]), some (.tup [(.tup [(.str "times"), (.tup [(.int 10), (.int 1)])]), (.tup [(.str "near"), (.tup [(.int 1), (.int 1)]), (.str "up")]), (.tup [(.str "times"), (.tup [(.int 1), (.int 10)])]), (.tup [(.str "near"), (.tup [(.int 1), (.int 1)]), (.str "up")])]), some (.tup [(.str "near"), (.tup [(.int 1), (.int 1)]), (.str "up")]), some (.tup [(.str "near"), (.tup [(.int 1), (.int 7)]), (.str "up")]), some (.tup [(.int (-4)), (.int 7)]), some (.tup [(.int 3), (.int 7)])] st := by kernel_rfl
theorem m7_all (x0 x1 x2 x3 x4 x5 x6 x7 x8 x9 x10 : Option D) (st : Sto) : ∃ y3 y4 y5 y6 y7 y8 y9 y10, (sSeq b_s1 (sSeq b_s2 (sSeq b_s3 (sSeq b_s4 (sSeq b_s5 (sSeq b_s6 (sSeq b_s7 (sSeq b_s8 (sSeq b_s9 (sSeq b_s10 b_s11)))))))))) [x0, x1, some (.int 7), x3, x4, x5, x6, x7, x8, x9, x10] st = .nx [x0, x1, some (.int 7), y3, y4, y5, y6, y7, y8, y9, y10] st := by
  refine ⟨some (.tup [(.tup [(.str "near"), (.tup [(.int 1), (.int 7)]), (.str "up")]), (.tup [(.str "near"), (.tup [(.int 1), (.int 1)]), (.str "up")])]), some (.tup [(.tup [(.str "near"), (.tup [(.int 1), (.int 7)]), (.str "down")]), (.tup [(.str "near"), (.tup [(.int 1), (.int 1)]), (.str "down")])]), some (.tup [(.tup [(.str "near"), (.tup [(.int 1), (.int 7)]), (.str "down")]), (.tup [(.str "near"), (.tup [(.int 1), (.int 1)]), (.str "up")])]), some (.tup [(.tup [(.str "times"), (.tup [(.int 10), (.int 1)])]), (.tup [(.str "near"), (.tup [(.int 1), (.int 1)]), (.str "up")]), (.tup [(.str "times"), (.tup [(.int 1), (.int 10)])]), (.tup [(.str "near"), (.tup [(.int 1), (.int 1)]), (.str "up")])]), some (.tup [(.str "near"), (.tup [(.int 1), (.int 1)]), (.str "up")]), some (.tup [(.str "near"), (.tup [(.int 1), (.int 7)]), (.str "up")]), some (.tup [(.int (-4)), (.int 7)]), some (.tup [(.int 3), (.int 7)]), ?_⟩
  rw [seq_nx (m7_1 x0 x1 x2 x3 x4 x5 x6 x7 x8 x9 x10 st), seq_nx (m7_2 x0 x1 x2 x3 x4 x5 x6 x7 x8 x9 x10 st), seq_nx (m7_3 x0 x1 x2 x3 x4 x5 x6 x7 x8 x9 x10 st), seq_nx (m7_4 x0 x1 x2 x3 x4 x5 x6 x7 x8 x9 x10 st), seq_nx (m7_5 x0 x1 x2 x3 x4 x5 x6 x7 x8 x9 x10 st), seq_nx (m7_6 x0 x1 x2 x3 x4 x5 x6 x7 x8 x9 x10 st), seq_nx (m7_7 x0 x1 x2 x3 x4 x5 x6 x7 x8 x9 x10 st), seq_nx (m7_8 x0 x1 x2 x3 x4 x5 x6 x7 x8 x9 x10 st), seq_nx (m7_9 x0 x1 x2 x3 x4 x5 x6 x7 x8 x9 x10 st), seq_nx (m7_10 x0 x1 x2 x3 x4 x5 x6 x7 x8 x9 x10 st)]
  exact m7_11 x0 x1 x2 x3 x4 x5 x6 x7 x8 x9 x10 st
theorem m8_1 (x0 x1 x2 x3 x4 x5 x6 x7 x8 x9 x10 : Option D) (st : Sto) : b_s1 [x0, x1, some (.int 8), x3, x4, x5, x6, x7, x8, x9, x10] st = .nx [x0, x1, some (.int 8), x3, x4, x5, x6, some (.tup [(.str "near"), (.tup [(.int 1), (.int 1)]), (.str "up")]), some (.tup [(.str "near"), (.tup [(.int 1), (.int 8)]), (.str "up")]), x9, x10] st := by kernel_rfl
theorem m8_2 (x0 x1 x2 x3 x4 x5 x6 x7 x8 x9 x10 : Option D) (st : Sto) : b_s2 [x0, x1, some (.int 8), x3, x4, x5, x6, some (.tup [(.str "near"), (.tup [(.int 1), (.int 1)]), (.str "up")]), some (.tup [(.str "near"), (.tup [(.int 1), (.int 8)]), (.str "up")]), x9, x10] st = .nx [x0, x1, some (.int 8), some (.tup [(.tup [(.str "near"), (.tup [(.int 1), (.int 8)]), (.str "up")]), (.tup [(.str "near"), (.tup [(.int 1), (.int 1)]), (.str "up")])]), x4, x5, x6, some (.tup [(.str "near"), (.tup [(.int 1), (.int 1)]), (.str "up")]), some (.tup [(.str "near"), (.tup [(.int 1), (.int 8)]), (.str "up")]), x9, x10] st := by kernel_rfl
theorem m8_3 (x0 x1 x2 x3 x4 x5 x6 x7 x8 x9 x10 : Option D) (st : Sto) : b_s3 [x0, x1, some (.int 8), some (.tup [(.tup [(.str "near"), (.tup [(.int 1), (.int 8)]), (.str "up")]), (.tup [(.str "near"), (.tup [(.int 1), (.int 1)]), (.str "up")])]), x4, x5, x6, some (.tup [(.str "near"), (.tup [(.int 1), (.int 1)]), (.str "up")]), some (.tup [(.str "near"), (.tup [(.int 1), (.int 8)]), (.str "up")]), x9, x10] st = .nx [x0, x1, some (.int 8), some (.tup [(.tup [(.str "near"), (.tup [(.int 1), (.int 8)]), (.str "up")]), (.tup [(.str "near"), (.tup [(.int 1), (.int 1)]), (.str "up")])]), x4, x5, x6, some (.tup [(.str "near"), (.tup [(.int 1), (.int 1)]), (.str "up")]), some (.tup [(.str "near"), (.tup [(.int 1), (.int 8)]), (.str "up")]), x9, x10] st := by kernel_rfl
theorem m8_4 (x0 x1 x2 x3 x4 x5 x6 x7 x8 x9 x10 : Option D) (st : Sto) : b_s4 [x0, x1, some (.int 8), some (.tup [(.tup [(.str "near"), (.tup [(.int 1), (.int 8)]), (.str "up")]), (.tup [(.str "near"), (.tup [(.int 1), (.int 1)]), (.str "up")])]), x4, x5, x6, some (.tup [(.str "near"), (.tup [(.int 1), (.int 1)]), (.str "up")]), some (.tup [(.str "near"), (.tup [(.int 1), (.int 8)]), (.str "up")]), x9, x10] st = .nx [x0, x1, some (.int 8), some (.tup [(.tup [(.str "near"), (.tup [(.int 1), (.int 8)]), (.str "up")]), (.tup [(.str "near"), (.tup [(.int 1), (.int 1)]), (.str "up")])]), some (.tup [(.tup [(.str "near"), (.tup [(.int 1), (.int 8)]), (.str "down")]), (.tup [(.str "near"), (.tup [(.int 1), (.int 1)]), (.str "down")])]), x5, x6, some (.tup [(.str "near"), (.tup [(.int 1), (.int 1)]), (.str "up")]), some (.tup [(.str "near"), (.tup [(.int 1), (.int 8)]), (.str "up")]), x9, x10] st := by kernel_rfl
theorem m8_5 (x0 x1 x2 x3 x4 x5 x6 x7 x8 x9 x10 : Option D) (st : Sto) : b_s5 [x0, x1, some (.int 8), some (.tup [(.tup [(.str "near"), (.tup [(.int 1), (.int 8)]), (.str "up")]), (.tup [(.str "near"), (.tup [(.int 1), (.int 1)]), (.str "up")])]), some (.tup [(.tup [(.str "near"), (.tup [(.int 1), (.int 8)]), (.str "down")]), (.tup [(.str "near"), (.tup [(.int 1), (.int 1)]), (.str "down")])]), x5, x6, some (.tup [(.str "near"), (.tup [(.int 1), (.int 1)]), (.str "up")]), some (.tup [(.str "near"), (.tup [(.int 1), (.int 8)]), (.str "up")]), x9, x10] st = .nx [x0, x1, some (.int 8), some (.tup [(.tup [(.str "near"), (.tup [(.int 1), (.int 8)]), (.str "up")]), (.tup [(.str "near"), (.tup [(.int 1), (.int 1)]), (.str "up")])]), some (.tup [(.tup [(.str "near"), (.tup [(.int 1), (.int 8)]), (.str "down")]), (.tup [(.str "near"), (.tup [(.int 1), (.int 1)]), (.str "down")])]), x5, x6, some (.tup [(.str "near"), (.tup [(.int 1), (.int 1)]), (.str "up")]), some (.tup [(.str "near"), (.tup [(.int 1), (.int 8)]), (.str "up")]), x9, x10] st := by kernel_rfl
theorem m8_6 (x0 x1 x2 x3 x4 x5 x6 x7 x8 x9 x10 : Option D) (st : Sto) : b_s6 [x0, x1, some (.int 8), some (.tup [(.tup [(.str "near"), (.tup [(.int 1), (.int 8)]), (.str "up")]), (.tup [(.str "near"), (.tup [(.int 1), (.int 1)]), (.str "up")])]), some (.tup [(.tup [(.str "near"), (.tup [(.int 1), (.int 8)]), (.str "down")]), (.tup [(.str "near"), (.tup [(.int 1), (.int 1)]), (.str "down")])]), x5, x6, some (.tup [(.str "near"), (.tup [(.int 1), (.int 1)]), (.str "up")]), some (.tup [(.str "near"), (.tup [(.int 1), (.int 8)]), (.str "up")]), x9, x10] st = .nx [x0, x1, some (.int 8), some (.tup [(.tup [(.str "near"), (.tup [(.int 1), (.int 8)]), (.str "up")]), (.tup [(.str "near"), (.tup [(.int 1), (.int 1)]), (.str "up")])]), some (.tup [(.tup [(.str "near"), (.tup [(.int 1), (.int 8)]), (.str "down")]), (.tup [(.str "near"), (.tup [(.int 1), (.int 1)]), (.str "down")])]), some (.tup [(.tup [(.str "near"), (.tup [(.int 1), (.int 8)]), (.str "down")]), (.tup [(.str "near"), (.tup [(.int 1), (.int 1)]), (.str "up")])]), x6, some (.tup [(.str "near"), (.tup [(.int 1), (.int 1)]), (.str "up")]), some (.tup [(.str "near"), (.tup [(.int 1), (.int 8)]), (.str "up")]), x9, x10] st := by kernel_rfl
theorem m8_7 (x0 x1 x2 x3 x4 x5 x6 x7 x8 x9 x10 : Option D) (st : Sto) : b_s7 [x0, x1, some (.int 8), some (.tup [(.tup [(.str "near"), (.tup [(.int 1), (.int 8)]), (.str "up")]), (.tup [(.str "near"), (.tup [(.int 1), (.int 1)]), (.str "up")])]), some (.tup [(.tup [(.str "near"), (.tup [(.int 1), (.int 8)]), (.str "down")]), (.tup [(.str "near"), (.tup [(.int 1), (.int 1)]), (.str "down")])]), some (.tup [(.tup [(.str "near"), (.tup [(.int 1), (.int 8)]), (.str "down")]), (.tup [(.str "near"), (.tup [(.int 1), (.int 1)]), (.str "up")])]), x6, some (.tup [(.str "near"), (.tup [(.int 1), (.int 1)]), (.str "up")]), some (.tup [(.str "near"), (.tup [(.int 1), (.int 8)]), (.str "up")]), x9, x10] st = .nx [x0, x1, some (.int 8), some (.tup [(.tup [(.str "near"), (.tup [(.int 1), (.int 8)]), (.str "up")]), (.tup [(.str "near"), (.tup [(.int 1), (.int 1)]), (.str "up")])]), some (.tup [(.tup [(.str "near"), (.tup [(.int 1), (.int 8)]), (.str "down")]), (.tup [(.str "near"), (.tup [(.int 1), (.int 1)]), (.str "down")])]), some (.tup [(.tup [(.str "near"), (.tup [(.int 1), (.int 8)]), (.str "down")]), (.tup [(.str "near"), (.tup [(.int 1), (.int 1)]), (.str "up")])]), x6, some (.tup [(.str "near"), (.tup [(.int 1), (.int 1)]), (.str "up")]), some (.tup [(.str "near"), (.tup [(.int 1), (.int 8)]), (.str "up")]), some (.tup [(.int (-9)), (.int 16)]), some (.tup [(.int 7), (.int 16)])] st := by kernel_rfl
theorem m8_8 (x0 x1 x2 x3 x4 x5 x6 x7 x8 x9 x10 : Option D) (st : Sto) : b_s8 [x0, x1, some (.int 8), some (.tup [(.tup [(.str "near"), (.tup [(.int 1), (.int 8)]), (.str "up")]), (.tup [(.str "near"), (.tup [(.int 1), (.int 1)]), (.str "up")])]), some (.tup [(.tup [(.str "near"), (.tup [(.int 1), (.int 8)]), (.str "down")]), (.tup [(.str "near"), (.tup [(.int 1), (.int 1)]), (.str "down")])]), some (.tup [(.tup [(.str "near"), (.tup [(.int 1), (.int 8)]), (.str "down")]), (.tup [(.str "near"), (.tup [(.int 1), (.int 1)]), (.str "up")])]), x6, some (.tup [(.str "near"), (.tup [(.int 1), (.int 1)]), (.str "up")]), some (.tup [(.str "near"), (.tup [(.int 1), (.int 8)]), (.str "up")]), some (.tup [(.int (-9)), (.int 16)]), some (.tup [(.int 7), (.int 16)])] st = .nx [x0, x1, some (.int 8), some (.tup [(.tup [(.str "near"), (.tup [(.int 1), (.int 8)]), (.str "up")]), (.tup [(.str "near"), (.tup [(.int 1), (.int 1)]), (.str "up")])]), some (.tup [(.tup [(.str "near"), (.tup [(.int 1), (.int 8)]), (.str "down")]), (.tup [(.str "near"), (.tup [(.int 1), (.int 1)]), (.str "down")])]), some (.tup [(.tup [(.str "near"), (.tup [(.int 1), (.int 8)]), (.str "down")]), (.tup [(.str "near"), (.tup [(.int 1), (.int 1)]), (.str "up")])]), x6, some (.tup [(.str "near"), (.tup [(.int 1), (.int 1)]), (.str "up")]), some (.tup [(.str "near"), (.tup [(.int 1), (.int 8)]), (.str "up")]), some (.tup [(.int (-9)), (.int 16)]), some (.tup [(.int 7), (.int 16)])] st := by kernel_rfl
theorem m8_9 (x0 x1 x2 x3 x4 x5 x6 x7 x8 x9 x10 : Option D) (st : Sto) : b_s9 [x0, x1, some (.int 8), some (.tup [(.tup [(.str "near"), (.tup [(.int 1), (.int 8)]), (.str "up")]), (.tup [(.str "near"), (.tup [(.int 1), (.int 1)]), (.str "up")])]), some (.tup [(.tup [(.str "near"), (.tup [(.int 1), (.int 8)]), (.str "down")]), (.tup [(.str "near"), (.tup [(.int 1), (.int 1)]), (.str "down")])]), some (.tup [(.tup [(.str "near"), (.tup [(.int 1), (.int 8)]), (.str "down")]), (.tup [(.str "near"), (.tup [(.int 1), (.int 1)]), (.str "up")])]), x6, some (.tup [(.str "near"), (.tup [(.int 1), (.int 1)]), (.str "up")]), some (.tup [(.str "near"), (.tup [(.int 1), (.int 8)]), (.str "up")]), some (.tup [(.int (-9)), (.int 16)]), some (.tup [(.int 7), (.int 16)])] st = .nx [x0, x1, some (.int 8), some (.tup [(.tup [(.str "near"), (.tup [(.int 1), (.int 8)]), (.str "up")]), (.tup [(.str "near"), (.tup [(.int 1), (.int 1)]), (.str "up")])]), some (.tup [(.tup [(.str "near"), (.tup [(.int 1), (.int 8)]), (.str "down")]), (.tup [(.str "near"), (.tup [(.int 1), (.int 1)]), (.str "down")])]), some (.tup [(.tup [(.str "near"), (.tup [(.int 1), (.int 8)]), (.str "down")]), (.tup [(.str "near"), (.tup [(.int 1), (.int 1)]), (.str "up")])]), some (.tup [(.tup [(.str "times"), (.tup [(.int 10), (.int 1)])]), (.tup [(.str "near"), (.tup [(.int 1), (.int 1)]), (.str "up")]), (.tup [(.str "times"), (.tup [(.int 1), (.int 10)])]), (.tup [(.str "near"), (.tup [(.int 1), (.int 1)]), (.str "up")])]), some (.tup [(.str "near"), (.tup [(.int 1), (.int 1)]), (.str "up")]), some (.tup [(.str "near"), (.tup [(.int 1), (.int 8)]), (.str "up")]), some (.tup [(.int (-9)), (.int 16)]), some (.tup [(.int 7), (.int 16)])] st := by kernel_rfl
theorem m8_10 (x0 x1 x2 x3 x4 x5 x6 x7 x8 x9 x10 : Option D) (st : Sto) : b_s10 [x0, x1, some (.int 8), some (.tup [(.tup [(.str "near"), (.tup [(.int 1), (.int 8)]), (.str "up")]), (.tup [(.str "near"), (.tup [(.int 1), (.int 1)]), (.str "up")])]), some (.tup [(.tup [(.str "near"), (.tup [(.int 1), (.int 8)]), (.str "down")]), (.tup [(.str "near"), (.tup [(.int 1), (.int 1)]), (.str "down")])]), some (.tup [(.tup [(.str "near"), (.tup [(.int 1), (.int 8)]), (.str "down")]), (.tup [(.str "near"), (.tup [(.int 1), (.int 1)]), (.str "up")])]), some (.tup [(.tup [(.str "times"), (.tup [(.int 10), (.int 1)])]), (.tup [(.str "near"), (.tup [(.int 1), (.int 1)]), (.str "up")]), (.tup [(.str "times"), (.tup [(.int 1), (.int 10)])]), (.tup [(.str "near"), (.tup [(.int 1), (.int 1)]), (.str "up")])]), some (.tup [(.str "near"), (.tup [(.int 1), (.int 1)]), (.str "up")]), some (.tup [(.str "near"), (.tup [(.int 1), (.int 8)]), (.str "up")]), some (.tup [(.int (-9)), (.int 16)]), some (.tup [(.int 7), (.int 16)])] st = .nx [x0, x1, some (.int 8), some (.tup [(.tup [(.str "near"), (.tup [(.int 1), (.int 8)]), (.str "up")]), (.tup [(.str "near"), (.tup [(.int 1), (.int 1)]), (.str "up")])]), some (.tup [(.tup [(.str "near"), (.tup [(.int 1), (.int 8)]), (.str "down")]), (.tup [(.str "near"), (.tup [(.int 1), (.int 1)]), (.str "down")])]), some (.tup [(.tup [(.str "near"), (.tup [(.int 1), (.int 8)]), (.str "down")]), (.tup [(.str "near"), (.tup [(.int 1), (.int 1)]), (.str "up")])]), some (.tup [(.tup [(.str "times"), (.tup [(.int 10), (.int 1)])]), (.tup [(.str "near"), (.tup [(.int 1), (.int 1)]), (.str "up")]), (.tup [(.str "times"), (.tup [(.int 1), (.int 10)])]), (.tup [(.str "near"), (.tup [(.int 1), (.int 1)]), (.str "up")])]), some (.tup [(.str "near"), (.tup [(.int 1), (.int 1)]), (.str "up")]), some (.tup [(.str "near"), (.tup [(.int 1), (.int 8)]), (.str "up")]), some (.tup [(.int (-9)), (.int 16)]), some (.tup [(.int 7), (.int 16)])] st := by kernel_rfl
theorem m8_11 (x0 x1 x2 x3 x4 x5 x6 x7 x8 x9 x10 : Option D) (st : Sto) : b_s11 [x0, x1, some (.int 8), some (.tup [(.tup [(.str "near"), (.tup [(.int 1), (.int 8)]), (.str "up")]), (.tup [(.str "near"), (.tup [(.int 1), (.int 1)]), (.str "up")])]), some (.tup [(.tup [(.str "near"), (.tup [(.int 1), (.int 8)]), (.str "down")]), (.tup [(.str "near"), (.tup [(.int 1), (.int 1)]), (.str "down")])]), some (.tup [(.tup [(.str "near"), (.tup [(.int 1), (.int 8)]), (.str "down")]), (.tup [(.str "near"), (.tup [(.int 1), (.int 1)]), (.str "up")])]), some (.tup [(.tup [(.str "times"), (.tup [(.int 10), (.int 1)])]), (.tup [(.str "near"), (.tup [(.int 1), (.int 1)]), (.str "up")]), (.tup [(.str "times"), (.tup [(.int 1), (.int 10)])]), (.tup [(.str "near"), (.tup [(.int 1), (.int 1)]), (.str "up")])]), some (.tup [(.str "near"), (.tup [(.int 1), (.int 1)]), (.str "up")]), some (.tup [(.str "near"), (.tup [(.int 1), (.int 8)]), (.str "up")]), some (.tup [(.int (-9)), (.int 16)]), some (.tup [(.int 7), (.int 16)])] st = .nx [x0, x1, some (.int 8), some (.tup [(.tup [(.str "near"), (.tup [(.int 1), (.int 8)]), (.str "up")]), (.tup [(.str "near"), (.tup [(.int 1), (.int 1)]), (.str "up")])]), some (.tup [(.tup [(.str "near"), (.tup [(.int 1), (.int 8)]), (.str "down")]), (.tup [(.str "near"), (.tup [(.int 1), (.int 1)]), (.str "down")])]), some (.tup [(.tup [(.str "near"), (.tup [(.int 1), (.int 8)]), (.str "down")]), (.tup [(.str "near"), (.tup [(.int 1), (.int 1)]), (.str "up")])]), some (.tup [(.tup [(.str "times"), (.tup [(.int 10), (.int 1)])]), (.tup [(.str "near"), (.tup [(.int 1), (.int 1)]), (.str "up")]), (.tup [(.str "times"), (.tup [(.int 1), (.int 10)])]), (.tup [(.str "near"), (.tup [(.int 1), (.int 1)]), (.str "up")])]), some (.tup [(.str "near"), (.tup [(.int 1), (.int 1)]), (.str "up")]), some (.tup [(.str "near"), (.tup [(.int 1), (.int 8)]), (.str "up")]), some (.tup [(.int (-9)), (.int 16)]), some (.tup [(.int 7), (.int 16)])] st := by kernel_rfl
theorem m8_all (x0 x1 x2 x3 x4 x5 x6 x7 x8 x9 x10 : Option D) (st : Sto) : ∃ y3 y4 y5 y6 y7 y8 y9 y10, (sSeq b_s1 (sSeq b_s2 (sSeq b_s3 (sSeq b_s4 (sSeq b_s5 (sSeq b_s6 (sSeq b_s7 (sSeq b_s8 (sSeq b_s9 (sSeq b_s10 b_s11)))))))))) [x0, x1, some (.int 8), x3, x4, x5, x6, x7, x8, x9, x10] st = .nx [x0, x1, some (.int 8), y3, y4, y5, y6, y7, y8, y9, y10] st := by
  refine ⟨some (.tup [(.tup [(.str "near"), (.tup [(.int 1), (.int 8)]), (.str "up")]), (.tup [(.str "near"), (.tup [(.int 1), (.int 1)]), (.str "up")])]), some (.tup [(.tup [(.str "near"), (.tup [(.int 1), (.int 8)]), (.str "down")]), (.tup [(.str "near"), (.tup [(.int 1), (.int 1)]), (.str "down")])]), some (.tup [(.tup [(.str "near"), (.tup [(.int 1), (.int 8)]), (.str "down")]), (.tup [(.str "near"), (.tup [(.int 1), (.int 1)]), (.str "up")])]), some (.tup [(.tup [(.str "times"), (.tup [(.int 10), (.int 1)])]), (.tup [(.str "near"), (.tup [(.int 1), (.int 1)]), (.str "up")]), (.tup [(.str "times"), (.tup [(.int 1), (.int 10)])]), (.tup [(.str "near"), (.tup [(.int 1), (.int 1)]), (.str "up")])]), some (.tup [(.str "near"), (.tup [(.int 1), (.int 1)]), (.str "up")]), some (.tup [(.str "near"), (.tup [(.int 1), (.int 8)]), (.str "up")]), some (.tup [(.int (-9)), (.int 16)]), some (.tup [(.int 7), (.int 16)]), ?_⟩
  rw [seq_nx (m8_1 x0 x1 x2 x3 x4 x5 x6 x7 x8 x9 x10 st), seq_nx (m8_2 x0 x1 x2 x3 x4 x5 x6 x7 x8 x9 x10 st), seq_nx (m8_3 x0 x1 x2 x3 x4 x5 x6 x7 x8 x9 x10 st), seq_nx (m8_4 x0 x1 x2 x3 x4 x5 x6 x7 x8 x9 x10 st), seq_nx (m8_5 x0 x1 x2 x3 x4 x5 x6 x7 x8 x9 x10 st), seq_nx (m8_6 x0 x1 x2 x3 x4 x5 x6 x7 x8 x9 x10 st), seq_nx (m8_7 x0 x1 x2 x3 x4 x5 x6 x7 x8 x9 x10 st), seq_nx (m8_8 x0 x1 x2 x3 x4 x5 x6 x7 x8 x9 x10 st), seq_nx (m8_9 x0 x1 x2 x3 x4 x5 x6 x7 x8 x9 x10 st), seq_nx (m8_10 x0 x1 x2 x3 x4 x5 x6 x7 x8 x9 x10 st)]
  exact m8_11 x0 x1 x2 x3 x4 x5 x6 x7 x8 x9 x10 st
theorem m9_1 (x0 x1 x2 x3 x4 x5 x6 x7 x8 x9 x10 : Option D) (st : Sto) : b_s1 [x0, x1, some (.int 9), x3, x4, x5, x6, x7, x8, x9, x10] st = .nx [x0, x1, some (.int 9), x3, x4, x5, x6, some (.tup [(.str "near"), (.tup [(.int 1), (.int 1)]), (.str "up")]), some (.tup [(.str "near"), (.tup [(.int 1), (.int 9)]), (.str "up")]), x9, x10] st := by kernel_rfl
theorem m9_2 (x0 x1 x2 x3 x4 x5 x6 x7 x8 x9 x10 : Option D) (st : Sto) : b_s2 [x0, x1, some (.int 9), x3, x4, x5, x6, some (.tup [(.str "near"), (.tup [(.int 1), (.int 1)]), (.str "up")]), some (.tup [(.str "near"), (.tup [(.int 1), (.int 9)]), (.str "up")]), x9, x10] st = .nx [x0, x1, some (.int 9), some (.tup [(.tup [(.str "near"), (.tup [(.int 1), (.int 9)]), (.str "up")]), (.tup [(.str "near"), (.tup [(.int 1), (.int 1)]), (.str "up")])]), x4, x5, x6, some (.tup [(.str "near"), (.tup [(.int 1), (.int 1)]), (.str "up")]), some (.tup [(.str "near"), (.tup [(.int 1), (.int 9)]), (.str "up")]), x9, x10] st := by kernel_rfl
theorem m9_3 (x0 x1 x2 x3 x4 x5 x6 x7 x8 x9 x10 : Option D) (st : Sto) : b_s3 [x0, x1, some (.int 9), some (.tup [(.tup [(.str "near"), (.tup [(.int 1), (.int 9)]), (.str "up")]), (.tup [(.str "near"), (.tup [(.int 1), (.int 1)]), (.str "up")])]), x4, x5, x6, some (.tup [(.str "near"), (.tup [(.int 1), (.int 1)]), (.str "up")]), some (.tup [(.str "near"), (.tup [(.int 1), (.int 9)]), (.str "up")]), x9, x10] st = .nx [x0, x1, some (.int 9), some (.tup [(.tup [(.str "near"), (.tup [(.int 1), (.int 9)]), (.str "up")]), (.tup [(.str "near"), (.tup [(.int 1), (.int 1)]), (.str "up")])]), x4, x5, x6, some (.tup [(.str "near"), (.tup [(.int 1), (.int 1)]), (.str "up")]), some (.tup [(.str "near"), (.tup [(.int 1), (.int 9)]), (.str "up")]), x9, x10] st := by kernel_rfl
theorem m9_4 (x0 x1 x2 x3 x4 x5 x6 x7 x8 x9 x10 : Option D) (st : Sto) : b_s4 [x0, x1, some (.int 9), some (.tup [(.tup [(.str "near"), (.tup [(.int 1), (.int 9)]), (.str "up")]), (.tup [(.str "near"), (.tup [(.int 1), (.int 1)]), (.str "up")])]), x4, x5, x6, some (.tup [(.str "near"), (.tup [(.int 1), (.int 1)]), (.str "up")]), some (.tup [(.str "near"), (.tup [(.int 1), (.int 9)]), (.str "up")]), x9, x10] st = .nx [x0, x1, some (.int 9), some (.tup [(.tup [(.str "near"), (.tup [(.int 1), (.int 9)]), (.str "up")]), (.tup [(.str "near"), (.tup [(.int 1), (.int 1)]), (.str "up")])]), some (.tup [(.tup [(.str "near"), (.tup [(.int 1), (.int 9)]), (.str "down")]), (.tup [(.str "near"), (.tup [(.int 1), (.int 1)]), (.str "down")])]), x5, x6, some (.tup [(.str "near"), (.tup [(.int 1), (.int 1)]), (.str "up")]), some (.tup [(.str "near"), (.tup [(.int 1), (.int 9)]), (.str "up")]), x9, x10] st := by kernel_rfl
theorem m9_5 (x0 x1 x2 x3 x4 x5 x6 x7 x8 x9 x10 : Option D) (st : Sto) : b_s5 [x0, x1, some (.int 9), some (.tup [(.tup [(.str "near"), (.tup [(.int 1), (.int 9)]), (.str "up")]), (.tup [(.str "near"), (.tup [(.int 1), (.int 1)]), (.str "up")])]), some (.tup [(.tup [(.str "near"), (.tup [(.int 1), (.int 9)]), (.str "down")]), (.tup [(.str "near"), (.tup [(.int 1), (.int 1)]), (.str "down")])]), x5, x6, some (.tup [(.str "near"), (.tup [(.int 1), (.int 1)]), (.str "up")]), some (.tup [(.str "near"), (.tup [(.int 1), (.int 9)]), (.str "up")]), x9, x10] st = .nx [x0, x1, some (.int 9), some (.tup [(.tup [(.str "near"), (.tup [(.int 1), (.int 9)]), (.str "up")]), (.tup [(.str "near"), (.tup [(.int 1), (.int 1)]), (.str "up")])]), some (.tup [(.tup [(.str "near"), (.tup [(.int 1), (.int 9)]), (.str "down")]), (.tup [(.str "near"), (.tup [(.int 1), (.int 1)]), (.str "down")])]), x5, x6, some (.tup [(.str "near"), (.tup [(.int 1), (.int 1)]), (.str "up")]), some (.tup [(.str "near"), (.tup [(.int 1), (.int 9)]), (.str "up")]), x9, x10] st := by kernel_rfl
theorem m9_6 (x0 x1 x2 x3 x4 x5 x6 x7 x8 x9 x10 : Option D) (st : Sto) : b_s6 [x0, x1, some (.int 9), some (.tup [(.tup [(.str "near"), (.tup [(.int 1), (.int 9)]), (.str "up")]), (.tup [(.str "near"), (.tup [(.int 1), (.int 1)]), (.str "up")])]), some (.tup [(.tup [(.str "near"), (.tup [(.int 1), (.int 9)]), (.str "down")]), (.tup [(.str "near"), (.tup [(.int 1), (.int 1)]), (.str "down")])]), x5, x6, some (.tup [(.str "near"), (.tup [(.int 1), (.int 1)]), (.str "up")]), some (.tup [(.str "near"), (.tup [(.int 1), (.int 9)]), (.str "up")]), x9, x10] st = .nx [x0, x1, some (.int 9), some (.tup [(.tup [(.str "near"), (.tup [(.int 1), (.int 9)]), (.str "up")]), (.tup [(.str "near"), (.tup [(.int 1), (.int 1)]), (.str "up")])]), some (.tup [(.tup [(.str "near"), (.tup [(.int 1), (.int 9)]), (.str "down")]), (.tup [(.str "near"), (.tup [(.int 1), (.int 1)]), (.str "down")])]), some (.tup [(.tup [(.str "near"), (.tup [(.int 1), (.int 9)]), (.str "down")]), (.tup [(.str "near"), (.tup [(.int 1), (.int 1)]), (.str "up")])]), x6, some (.tup [(.str "near"), (.tup [(.int 1), (.int 1)]), (.str "up")]), some (.tup [(.str "near"), (.tup [(.int 1), (.int 9)]), (.str "up")]), x9, x10] st := by kernel_rfl
theorem m9_7 (x0 x1 x2 x3 x4 x5 x6 x7 x8 x9 x10 : Option D) (st : Sto) : b_s7 [x0, x1, some (.int 9), some (.tup [(.tup [(.str "near"), (.tup [(.int 1), (.int 9)]), (.str "up")]), (.tup [(.str "near"), (.tup [(.int 1), (.int 1)]), (.str "up")])]), some (.tup [(.tup [(.str "near"), (.tup [(.int 1), (.int 9)]), (.str "down")]), (.tup [(.str "near"), (.tup [(.int 1), (.int 1)]), (.str "down")])]), some (.tup [(.tup [(.str "near"), (.tup [(.int 1), (.int 9)]), (.str "down")]), (.tup [(.str "near"), (.tup [(.int 1), (.int 1)]), (.str "up")])]), x6, some (.tup [(.str "near"), (.tup [(.int 1), (.int 1)]), (.str "up")]), some (.tup [(.str "near"), (.tup [(.int 1), (.int 9)]), (.str "up")]), x9, x10] st = .nx [x0, x1, some (.int 9), some (.tup [(.tup [(.str "near"), (.tup [(.int 1), (.int 9)]), (.str "up")]), (.tup [(.str "near"), (.tup [(.int 1), (.int 1)]), (.str "up")])]), some (.tup [(.tup [(.str "near"), (.tup [(.int 1), (.int 9)]), (.str "down")]), (.tup [(.str "near"), (.tup [(.int 1), (.int 1)]), (.str "down")])]), some (.tup [(.tup [(.str "near"), (.tup [(.int 1), (.int 9)]), (.str "down")]), (.tup [(.str "near"), (.tup [(.int 1), (.int 1)]), (.str "up")])]), x6, some (.tup [(.str "near"), (.tup [(.int 1), (.int 1)]), (.str "up")]), some (.tup [(.str "near"), (.tup [(.int 1), (.int 9)]), (.str "up")]), some (.tup [(.int (-5)), (.int 9)]), some (.tup [(.int 4), (.int 9)])] st := by kernel_rfl
theorem m9_8 (x0 x1 x2 x3 x4 x5 x6 x7 x8 x9 x10 : Option D) (st : Sto) : b_s8 [x0, x1, some (.int 9), some (.tup [(.tup [(.str "near"), (.tup [(.int 1), (.int 9)]), (.str "up")]), (.tup [(.str "near"), (.tup [(.int 1), (.int 1)]), (.str "up")])]), some (.tup [(.tup [(.str "near"), (.tup [(.int 1), (.int 9)]), (.str "down")]), (.tup [(.str "near"), (.tup [(.int 1), (.int 1)]), (.str "down")])]), some (.tup [(.tup [(.str "near"), (.tup [(.int 1), (.int 9)]), (.str "down")]), (.tup [(.str "near"), (.tup [(.int 1), (.int 1)]), (.str "up")])]), x6, some (.tup [(.str "near"), (.tup [(.int 1), (.int 1)]), (.str "up")]), some (.tup [(.str "near"), (.tup [(.int 1), (.int 9)]), (.str "up")]), some (.tup [(.int (-5)), (.int 9)]), some (.tup [(.int 4), (.int 9)])] st = .nx [x0, x1, some (.int 9), some (.tup [(.tup [(.str "near"), (.tup [(.int 1), (.int 9)]), (.str "up")]), (.tup [(.str "near"), (.tup [(.int 1), (.int 1)]), (.str "up")])]), some (.tup [(.tup [(.str "near"), (.tup [(.int 1), (.int 9)]), (.str "down")]), (.tup [(.str "near"), (.tup [(.int 1), (.int 1)]), (.str "down")])]), some (.tup [(.tup [(.str "near"), (.tup [(.int 1), (.int 9)]), (.str "down")]), (.tup [(.str "near"), (.tup [(.int 1), (.int 1)]), (.str "up")])]), x6, some (.tup [(.str "near"), (.tup [(.int 1), (.int 1)]), (.str "up")]), some (.tup [(.str "near"), (.tup [(.int 1), (.int 9)]), (.str "up")]), some (.tup [(.int (-5)), (.int 9)]), some (.tup [(.int 4), (.int 9)])] st := by kernel_rfl
theorem m9_9 (x0 x1 x2 x3 x4 x5 x6 x7 x8 x9 x10 : Option D) (st : Sto) : b_s9 [x0, x1, some (.int 9), some (.tup [(.tup [(.str "near"), (.tup [(.int 1), (.int 9)]), (.str "up")]), (.tup [(.str "near"), (.tup [(.int 1), (.int 1)]), (.str "up")])]), some (.tup [(.tup [(.str "near"), (.tup [(.int 1), (.int 9)]), (.str "down")]), (.tup [(.str "near"), (.tup [(.int 1), (.int 1)]), (.str "down")])]), some (.tup [(.tup [(.str "near"), (.tup [(.int 1), (.int 9)]), (.str "down")]), (.tup [(.str "near"), (.tup [(.int 1), (.int 1)]), (.str "up")])]), x6, some (.tup [(.str "near"), (.tup [(.int 1), (.int 1)]), (.str "up")]), some (.tup [(.str "near"), (.tup [(.int 1), (.int 9)]), (.str "up")]), some (.tup [(.int (-5)), (.int 9)]), some (.tup [(.int 4), (.int 9)])] st = .nx [x0, x1, some (.int 9), some (.tup [(.tup [(.str "near"), (.tup [(.int 1), (.int 9)]), (.str "up")]), (.tup [(.str "near"), (.tup [(.int 1), (.int 1)]), (.str "up")])]), some (.tup [(.tup [(.str "near"), (.tup [(.int 1), (.int 9)]), (.str "down")]), (.tup [(.str "near"), (.tup [(.int 1), (.int 1)]), (.str "down")])]), some (.tup [(.tup [(.str "near"), (.tup [(.int 1), (.int 9)]), (.str "down")]), (.tup [(.str "near"), (.tup [(.int 1), (.int 1)]), (.str "up")])]), some (.tup [(.tup [(.str "times"), (.tup [(.int 10), (.int 1)])]), (.tup [(.str "near"), (.tup [(.int 1), (.int 1)]), (.str "up")]), (.tup [(.str "times"), (.tup [(.int 1), (.int 10)])]), (.tup [(.str "near"), (.tup [(.int 1), (.int 1)]), (.str "up")])]), some (.tup [(.str "near"), (.tup [(.int 1), (.int 1)]), (.str "up")]), some (.tup [(.str "near"), (.tup [(.int 1), (.int 9)]), (.str "up")]), some (.tup [(.int (-5)), (.int 9)]), some (.tup [(.int 4), (.int 9)])] st := by kernel_rfl
theorem m9_10 (x0 x1 x2 x3 x4 x5 x6 x7 x8 x9 x10 : Option D) (st : Sto) : b_s10 [x0, x1, some (.int 9), some (.tup [(.tup [(.str "near"), (.tup [(.int 1), (.int 9)]), (.str "up")]), (.tup [(.str "near"), (.tup [(.int 1), (.int 1)]), (.str "up")])]), some (.tup [(.tup [(.str "near"), (.tup [(.int 1), (.int 9)]), (.str "down")]), (.tup [(.str "near"), (.tup [(.int 1), (.int 1)]), (.str "down")])]), some (.tup [(.tup [(.str "near"), (.tup [(.int 1), (.int 9)]), (.str "down")]), (.tup [(.str "near"), (.tup [(.int 1), (.int 1)]), (.str "up")])]), some (.tup [(.tup [(.str "times"), (.tup [(.int 10), (.int 1)])]), (.tup [(.str "near"), (.tup [(.int 1), (.int 1)]), (.str "up")]), (.tup [(.str "times"), (.tup [(.int 1), (.int 10)])]), (.tup [(.str "near"), (.tup [(.int 1), (.int 1)]), (.str "up")])]), some (.tup [(.str "near"), (.tup [(.int 1), (.int 1)]), (.str "up")]), some (.tup [(.str "near"), (.tup [(.int 1), (.int 9)]), (.str "up")]), some (.tup [(.int (-5)), (.int 9)]), some (.tup [(.int 4), (.int 9)])] st = .nx [x0, x1, some (.int 9), some (.tup [(.tup [(.str "near"), (.tup [(.int 1), (.int 9)]), (.str "up")]), (.tup [(.str "near"), (.tup [(.int 1), (.int 1)]), (.str "up")])]), some (.tup [(.tup [(.str "near"), (.tup [(.int 1), (.int 9)]), (.str "down")]), (.tup [(.str "near"), (.tup [(.int 1), (.int 1)]), (.str "down")])]), some (.tup [(.tup [(.str "near"), (.tup [(.int 1), (.int 9)]), (.str "down")]), (.tup [(.str "near"), (.tup [(.int 1), (.int 1)]), (.str "up")])]), some (.tup [(.tup [(.str "times"), (.tup [(.int 10), (.int 1)])]), (.tup [(.str "near"), (.tup [(.int 1), (.int 1)]), (.str "up")]), (.tup [(.str "times"), (.tup [(.int 1), (.int 10)])]), (.tup [(.str "near"), (.tup [(.int 1), (.int 1)]), (.str "up")])]), some (.tup [(.str "near"), (.tup [(.int 1), (.int 1)]), (.str "up")]), some (.tup [(.str "near"), (.tup [(.int 1), (.int 9)]), (.str "up")]), some (.tup [(.int (-5)), (.int 9)]), some (.tup [(.int 4), (.int 9)])] st := by kernel_rfl
theorem m9_11 (x0 x1 x2 x3 x4 x5 x6 x7 x8 x9 x10 : Option D) (st : Sto) : b_s11 [x0, x1, some (.int 9), some (.tup [(.tup [(.str "near"), (.tup [(.int 1), (.int 9)]), (.str "up")]), (.tup [(.str "near"), (.tup [(.int 1), (.int 1)]), (.str "up")])]), some (.tup [(.tup [(.str "near"), (.tup [(.int 1), (.int 9)]), (.str "down")]), (.tup [(.str "near"), (.tup [(.int 1), (.int 1)]), (.str "down")])]), some (.tup [(.tup [(.str "near"), (.tup [(.int 1), (.int 9)]), (.str "down")]), (.tup [(.str "near"), (.tup [(.int 1), (.int 1)]), (.str "up")])]), some (.tup [(.tup [(.str "times"), (.tup [(.int 10), (.int 1)])]), (.tup [(.str "near"), (.tup [(.int 1), (.int 1)]), (.str "up")]), (.tup [(.str "times"), (.tup [(.int 1), (.int 10)])]), (.tup [(.str "near"), (.tup [(.int 1), (.int 1)]), (.str "up")])]), some (.tup [(.str "near"), (.tup [(.int 1), (.int 1)]), (.str "up")]), some (.tup [(.str "near"), (.tup [(.int 1), (.int 9)]), (.str "up")]), some (.tup [(.int (-5)), (.int 9)]), some (.tup [(.int 4), (.int 9)])] st = .nx [x0, x1, some (.int 9), some (.tup [(.tup [(.str "near"), (.tup [(.int 1), (.int 9)]), (.str "up")]), (.tup [(.str "near"), (.tup [(.int 1), (.int 1)]), (.str "up")])]), some (.tup [(.tup [(.str "near"), (.tup [(.int 1), (.int 9)]), (.str "down")]), (.tup [(.str "near"), (.tup [(.int 1), (.int 1)]), (.str "down")])]), some (.tup [(.tup [(.str "near"), (.tup [(.int 1), (.int 9)]), (.str "down")]), (.tup [(.str "near"), (.tup [(.int 1), (.int 1)]), (.str "up")])]), some (.tup [(.tup [(.str "times"), (.tup [(.int 10), (.int 1)])]), (.tup [(.str "near"), (.tup [(.int 1), (.int 1)]), (.str "up")]), (.tup [(.str "times"), (.tup [(.int 1), (.int 10)])]), (.tup [(.str "near"), (.tup [(.int 1), (.int 1)]), (.str "up")])]), some (.tup [(.str "near"), (.tup [(.int 1), (.int 1)]), (.str "up")]), some (.tup [(.str "near"), (.tup [(.int 1), (.int 9)]), (.str "up")]), some (.tup [(.int (-5)), (.int 9)]), some (.tup [(.int 4), (.int 9)])] st := by kernel_rfl
theorem m9_all (x0 x1 x2 x3 x4 x5 x6 x7 x8 x9 x10 : Option D) (st : Sto) : ∃ y3 y4 y5 y6 y7 y8 y9 y10, (sSeq b_s1 (sSeq b_s2 (sSeq b_s3 (sSeq b_s4 (sSeq b_s5 (sSeq b_s6 (sSeq b_s7 (sSeq b_s8 (sSeq b_s9 (sSeq b_s10 b_s11)))))))))) [x0, x1, some (.int 9), x3, x4, x5, x6, x7, x8, x9, x10] st = .nx [x0, x1, some (.int 9), y3, y4, y5, y6, y7, y8, y9, y10] st := by
  refine ⟨some (.tup [(.tup [(.str "near"), (.tup [(.int 1), (.int 9)]), (.str "up")]), (.tup [(.str "near"), (.tup [(.int 1), (.int 1)]), (.str "up")])]), some (.tup [(.tup [(.str "near"), (.tup [(.int 1), (.int 9)]), (.str "down")]), (.tup [(.str "near"), (.tup [(.int 1), (.int 1)]), (.str "down")])]), some (.tup [(.tup [(.str "near"), (.tup [(.int 1), (.int 9)]), (.str "down")]), (.tup [(.str "near"), (.tup [(.int 1), (.int 1)]), (.str "up")])]), some (.tup [(.tup [(.str "times"), (.tup [(.int 10), (.int 1)])]), (.tup [(.str "near"), (.tup [(.int 1), (.int 1)]), (.str "up")]), (.tup [(.str "times"), (.tup [(.int 1), (.int 10)])]), (.tup [(.str "near"), (.tup [(.int 1), (.int 1)]), (.str "up")])]), some (.tup [(.str "near"), (.tup [(.int 1), (.int 1)]), (.str "up")]), some (.tup [(.str "near"), (.tup [(.int 1), (.int 9)]), (.str "up")]), some (.tup [(.int (-5)), (.int 9)]), some (.tup [(.int 4), (.int 9)]), ?_⟩
  rw [seq_nx (m9_1 x0 x1 x2 x3 x4 x5 x6 x7 x8 x9 x10 st), seq_nx (m9_2 x0 x1 x2 x3 x4 x5 x6 x7 x8 x9 x10 st), seq_nx (m9_3 x0 x1 x2 x3 x4 x5 x6 x7 x8 x9 x10 st), seq_nx (m9_4 x0 x1 x2 x3 x4 x5 x6 x7 x8 x9 x10 st), seq_nx (m9_5 x0 x1 x2 x3 x4 x5 x6 x7 x8 x9 x10 st), seq_nx (m9_6 x0 x1 x2 x3 x4 x5 x6 x7 x8 x9 x10 st), seq_nx (m9_7 x0 x1 x2 x3 x4 x5 x6 x7 x8 x9 x10 st), seq_nx (m9_8 x0 x1 x2 x3 x4 x5 x6 x7 x8 x9 x10 st), seq_nx (m9_9 x0 x1 x2 x3 x4 x5 x6 x7 x8 x9 x10 st), seq_nx (m9_10 x0 x1 x2 x3 x4 x5 x6 x7 x8 x9 x10 st)]
  exact m9_11 x0 x1 x2 x3 x4 x5 x6 x7 x8 x9 x10 st
theorem m10_1 (x0 x1 x2 x3 x4 x5 x6 x7 x8 x9 x10 : Option D) (st : Sto) : b_s1 [x0, x1, some (.int 10), x3, x4, x5, x6, x7, x8, x9, x10] st = .nx [x0, x1, some (.int 10), x3, x4, x5, x6, some (.tup [(.str "near"), (.tup [(.int 1), (.int 1)]), (.str "up")]), some (.tup [(.str "near"), (.tup [(.int 1), (.int 10)]), (.str "up")]), x9, x10] st := by kernel_rfl
theorem m10_2 (x0 x1 x2 x3 x4 x5 x6 x7 x8 x9 x10 : Option D) (st : Sto) : b_s2 [x0, x1, some (.int 10), x3, x4, x5, x6, some (.tup [(.str "near"), (.tup [(.int 1), (.int 1)]), (.str "up")]), some (.tup [(.str "near"), (.tup [(.int 1), (.int 10)]), (.str "up")]), x9, x10] st = .nx [x0, x1, some (.int 10), some (.tup [(.tup [(.str "near"), (.tup [(.int 1), (.int 10)]), (.str "up")]), (.tup [(.str "near"), (.tup [(.int 1), (.int 1)]), (.str "up")])]), x4, x5, x6, some (.tup [(.str "near"), (.tup [(.int 1), (.int 1)]), (.str "up")]), some (.tup [(.str "near"), (.tup [(.int 1), (.int 10)]), (.str "up")]), x9, x10] st := by kernel_rfl
theorem m10_3 (x0 x1 x2 x3 x4 x5 x6 x7 x8 x9 x10 : Option D) (st : Sto) : b_s3 [x0, x1, some (.int 10), some (.tup [(.tup [(.str "near"), (.tup [(.int 1), (.int 10)]), (.str "up")]), (.tup [(.str "near"), (.tup [(.int 1), (.int 1)]), (.str "up")])]), x4, x5, x6, some (.tup [(.str "near"), (.tup [(.int 1), (.int 1)]), (.str "up")]), some (.tup [(.str "near"), (.tup [(.int 1), (.int 10)]), (.str "up")]), x9, x10] st = .nx [x0, x1, some (.int 10), some (.tup [(.tup [(.str "near"), (.tup [(.int 1), (.int 10)]), (.str "up")]), (.tup [(.str "near"), (.tup [(.int 1), (.int 1)]), (.str "up")])]), x4, x5, x6, some (.tup [(.str "near"), (.tup [(.int 1), (.int 1)]), (.str "up")]), some (.tup [(.str "near"), (.tup [(.int 1), (.int 10)]), (.str "up")]), x9, x10] st := by kernel_rfl
theorem m10_4 (x0 x1 x2 x3 x4 x5 x6 x7 x8 x9 x10 : Option D) (st : Sto) : b_s4 [x0, x1, some (.int 10), some (.tup [(.tup [(.str "near"), (.tup [(.int 1), (.int 10)]), (.str "up")]), (.tup [(.str "near"), (.tup [(.int 1), (.int 1)]), (.str "up")])]), x4, x5, x6, some (.tup [(.str "near"), (.tup [(.int 1), (.int 1)]), (.str "up")]), some (.tup [(.str "near"), (.tup [(.int 1), (.int 10)]), (.str "up")]), x9, x10] st = .nx [x0, x1, some (.int 10), some (.tup [(.tup [(.str "near"), (.tup [(.int 1), (.int 10)]), (.str "up")]), (.tup [(.str "near"), (.tup [(.int 1), (.int 1)]), (.str "up")])]), some (.tup [(.tup [(.str "near"), (.tup [(.int 1), (.int 10)]), (.str "down")]), (.tup [(.str "near"), (.tup [(.int 1), (.int 1)]), (.str "down")])]), x5, x6, some (.tup [(.str "near"), (.tup [(.int 1), (.int 1)]), (.str "up")]), some (.tup [(.str "near"), (.tup [(.int 1), (.int 10)]), (.str "up")]), x9, x10] st := by kernel_rfl
theorem m10_5 (x0 x1 x2 x3 x4 x5 x6 x7 x8 x9 x10 : Option D) (st : Sto) : b_s5 [x0, x1, some (.int 10), some (.tup [(.tup [(.str "near"), (.tup [(.int 1), (.int 10)]), (.str "up")]), (.tup [(.str "near"), (.tup [(.int 1), (.int 1)]), (.str "up")])]), some (.tup [(.tup [(.str "near"), (.tup [(.int 1), (.int 10)]), (.str "down")]), (.tup [(.str "near"), (.tup [(.int 1), (.int 1)]), (.str "down")])]), x5, x6, some (.tup [(.str "near"), (.tup [(.int 1), (.int 1)]), (.str "up")]), some (.tup [(.str "near"), (.tup [(.int 1), (.int 10)]), (.str "up")]), x9, x10] st = .nx [x0, x1, some (.int 10), some (.tup [(.tup [(.str "near"), (.tup [(.int 1), (.int 10)]), (.str "up")]), (.tup [(.str "near"), (.tup [(.int 1), (.int 1)]), (.str "up")])]), some (.tup [(.tup [(.str "near"), (.tup [(.int 1), (.int 10)]), (.str "down")]), (.tup [(.str "near"), (.tup [(.int 1), (.int 1)]), (.str "down")])]), x5, x6, some (.tup [(.str "near"), (.tup [(.int 1), (.int 1)]), (.str "up")]), some (.tup [(.str "near"), (.tup [(.int 1), (.int 10)]), (.str "up")]), x9, x10] st := by kernel_rfl
theorem m10_6 (x0 x1 x2 x3 x4 x5 x6 x7 x8 x9 x10 : Option D) (st : Sto) : b_s6 [x0, x1, some (.int 10), some (.tup [(.tup [(.str "near"), (.tup [(.int 1), (.int 10)]), (.str "up")]), (.tup [(.str "near"), (.tup [(.int 1), (.int 1)]), (.str "up")])]), some (.tup [(.tup [(.str "near"), (.tup [(.int 1), (.int 10)]), (.str "down")]), (.tup [(.str "near"), (.tup [(.int 1), (.int 1)]), (.str "down")])]), x5, x6, some (.tup [(.str "near"), (.tup [(.int 1), (.int 1)]), (.str "up")]), some (.tup [(.str "near"), (.tup [(.int 1), (.int 10)]), (.str "up")]), x9, x10] st = .nx [x0, x1, some (.int 10), some (.tup [(.tup [(.str "near"), (.tup [(.int 1), (.int 10)]), (.str "up")]), (.tup [(.str "near"), (.tup [(.int 1), (.int 1)]), (.str "up")])]), some (.tup [(.tup [(.str "near"), (.tup [(.int 1), (.int 10)]), (.str "down")]), (.tup [(.str "near"), (.tup [(.int 1), (.int 1)]), (.str "down")])]), some (.tup [(.tup [(.str "near"), (.tup [(.int 1), (.int 10)]), (.str "down")]), (.tup [(.str "near"), (.tup [(.int 1), (.int 1)]), (.str "up")])]), x6, some (.tup [(.str "near"), (.tup [(.int 1), (.int 1)]), (.str "up")]), some (.tup [(.str "near"), (.tup [(.int 1), (.int 10)]), (.str "up")]), x9, x10] st := by kernel_rfl
theorem m10_7 (x0 x1 x2 x3 x4 x5 x6 x7 x8 x9 x10 : Option D) (st : Sto) : b_s7 [x0, x1, some (.int 10), some (.tup [(.tup [(.str "near"), (.tup [(.int 1), (.int 10)]), (.str "up")]), (.tup [(.str "near"), (.tup [(.int 1), (.int 1)]), (.str "up")])]), some (.tup [(.tup [(.str "near"), (.tup [(.int 1), (.int 10)]), (.str "down")]), (.tup [(.str "near"), (.tup [(.int 1), (.int 1)]), (.str "down")])]), some (.tup [(.tup [(.str "near"), (.tup [(.int 1), (.int 10)]), (.str "down")]), (.tup [(.str "near"), (.tup [(.int 1), (.int 1)]), (.str "up")])]), x6, some (.tup [(.str "near"), (.tup [(.int 1), (.int 1)]), (.str "up")]), some (.tup [(.str "near"), (.tup [(.int 1), (.int 10)]), (.str "up")]), x9, x10] st = .nx [x0, x1, some (.int 10), some (.tup [(.tup [(.str "near"), (.tup [(.int 1), (.int 10)]), (.str "up")]), (.tup [(.str "near"), (.tup [(.int 1), (.int 1)]), (.str "up")])]), some (.tup [(.tup [(.str "near"), (.tup [(.int 1), (.int 10)]), (.str "down")]), (.tup [(.str "near"), (.tup [(.int 1), (.int 1)]), (.str "down")])]), some (.tup [(.tup [(.str "near"), (.tup [(.int 1), (.int 10)]), (.str "down")]), (.tup [(.str "near"), (.tup [(.int 1), (.int 1)]), (.str "up")])]), x6, some (.tup [(.str "near"), (.tup [(.int 1), (.int 1)]), (.str "up")]), some (.tup [(.str "near"), (.tup [(.int 1), (.int 10)]), (.str "up")]), some (.tup [(.int (-11)), (.int 20)]), some (.tup [(.int 9), (.int 20)])] st := by kernel_rfl
theorem m10_8 (x0 x1 x2 x3 x4 x5 x6 x7 x8 x9 x10 : Option D) (st : Sto) : b_s8 [x0, x1, some (.int 10), some (.tup [(.tup [(.str "near"), (.tup [(.int 1), (.int 10)]), (.str "up")]), (.tup [(.str "near"), (.tup [(.int 1), (.int 1)]), (.str "up")])]), some (.tup [(.tup [(.str "near"), (.tup [(.int 1), (.int 10)]), (.str "down")]), (.tup [(.str "near"), (.tup [(.int 1), (.int 1)]), (.str "down")])]), some (.tup [(.tup [(.str "near"), (.tup [(.int 1), (.int 10)]), (.str "down")]), (.tup [(.str "near"), (.tup [(.int 1), (.int 1)]), (.str "up")])]), x6, some (.tup [(.str "near"), (.tup [(.int 1), (.int 1)]), (.str "up")]), some (.tup [(.str "near"), (.tup [(.int 1), (.int 10)]), (.str "up")]), some (.tup [(.int (-11)), (.int 20)]), some (.tup [(.int 9), (.int 20)])] st = .nx [x0, x1, some (.int 10), some (.tup [(.tup [(.str "near"), (.tup [(.int 1), (.int 10)]), (.str "up")]), (.tup [(.str "near"), (.tup [(.int 1), (.int 1)]), (.str "up")])]), some (.tup [(.tup [(.str "near"), (.tup [(.int 1), (.int 10)]), (.str "down")]), (.tup [(.str "near"), (.tup [(.int 1), (.int 1)]), (.str "down")])]), some (.tup [(.tup [(.str "near"), (.tup [(.int 1), (.int 10)]), (.str "down")]), (.tup [(.str "near"), (.tup [(.int 1), (.int 1)]), (.str "up")])]), x6, some (.tup [(.str "near"), (.tup [(.int 1), (.int 1)]), (.str "up")]), some (.tup [(.str "near"), (.tup [(.int 1), (.int 10)]), (.str "up")]), some (.tup [(.int (-11)), (.int 20)]), some (.tup [(.int 9), (.int 20)])] st := by kernel_rfl
theorem m10_9 (x0 x1 x2 x3 x4 x5 x6 x7 x8 x9 x10 : Option D) (st : Sto) : b_s9 [x0, x1, some (.int 10), some (.tup [(.tup [(.str "near"), (.tup [(.int 1), (.int 10)]), (.str "up")]), (.tup [(.str "near"), (.tup [(.int 1), (.int 1)]), (.str "up")])]), some (.tup [(.tup [(.str "near"), (.tup [(.int 1), (.int 10)]), (.str "down")]), (.tup [(.str "near"), (.tup [(.int 1), (.int 1)]), (.str "down")])]), some (.tup [(.tup [(.str "near"), (.tup [(.int 1), (.int 10)]), (.str "down")]), (.tup [(.str "near"), (.tup [(.int 1), (.int 1)]), (.str "up")])]), x6, some (.tup [(.str "near"), (.tup [(.int 1), (.int 1)]), (.str "up")]), some (.tup [(.str "near"), (.tup [(.int 1), (.int 10)]), (.str "up")]), some (.tup [(.int (-11)), (.int 20)]), some (.tup [(.int 9), (.int 20)])] st = .nx [x0, x1, some (.int 10), some (.tup [(.tup [(.str "near"), (.tup [(.int 1), (.int 10)]), (.str "up")]), (.tup [(.str "near"), (.tup [(.int 1), (.int 1)]), (.str "up")])]), some (.tup [(.tup [(.str "near"), (.tup [(.int 1), (.int 10)]), (.str "down")]), (.tup [(.str "near"), (.tup [(.int 1), (.int 1)]), (.str "down")])]), some (.tup [(.tup [(.str "near"), (.tup [(.int 1), (.int 10)]), (.str "down")]), (.tup [(.str "near"), (.tup [(.int 1), (.int 1)]), (.str "up")])]), some (.tup [(.tup [(.str "times"), (.tup [(.int 10), (.int 1)])]), (.tup [(.str "near"), (.tup [(.int 1), (.int 1)]), (.str "up")]), (.tup [(.str "times"), (.tup [(.int 1), (.int 10)])]), (.tup [(.str "near"), (.tup [(.int 1), (.int 1)]), (.str "up")])]), some (.tup [(.str "near"), (.tup [(.int 1), (.int 1)]), (.str "up")]), some (.tup [(.str "near"), (.tup [(.int 1), (.int 10)]), (.str "up")]), some (.tup [(.int (-11)), (.int 20)]), some (.tup [(.int 9), (.int 20)])] st := by kernel_rfl
theorem m10_10 (x0 x1 x2 x3 x4 x5 x6 x7 x8 x9 x10 : Option D) (st : Sto) : b_s10 [x0, x1, some (.int 10), some (.tup [(.tup [(.str "near"), (.tup [(.int 1), (.int 10)]), (.str "up")]), (.tup [(.str "near"), (.tup [(.int 1), (.int 1)]), (.str "up")])]), some (.tup [(.tup [(.str "near"), (.tup [(.int 1), (.int 10)]), (.str "down")]), (.tup [(.str "near"), (.tup [(.int 1), (.int 1)]), (.str "down")])]), some (.tup [(.tup [(.str "near"), (.tup [(.int 1), (.int 10)]), (.str "down")]), (.tup [(.str "near"), (.tup [(.int 1), (.int 1)]), (.str "up")])]), some (.tup [(.tup [(.str "times"), (.tup [(.int 10), (.int 1)])]), (.tup [(.str "near"), (.tup [(.int 1), (.int 1)]), (.str "up")]), (.tup [(.str "times"), (.tup [(.int 1), (.int 10)])]), (.tup [(.str "near"), (.tup [(.int 1), (.int 1)]), (.str "up")])]), some (.tup [(.str "near"), (.tup [(.int 1), (.int 1)]), (.str "up")]), some (.tup [(.str "near"), (.tup [(.int 1), (.int 10)]), (.str "up")]), some (.tup [(.int (-11)), (.int 20)]), some (.tup [(.int 9), (.int 20)])] st = .nx [x0, x1, some (.int 10), some (.tup [(.tup [(.str "near"), (.tup [(.int 1), (.int 10)]), (.str "up")]), (.tup [(.str "near"), (.tup [(.int 1), (.int 1)]), (.str "up")])]), some (.tup [(.tup [(.str "near"), (.tup [(.int 1), (.int 10)]), (.str "down")]), (.tup [(.str "near"), (.tup [(.int 1), (.int 1)]), (.str "down")])]), some (.tup [(.tup [(.str "near"), (.tup [(.int 1), (.int 10)]), (.str "down")]), (.tup [(.str "near"), (.tup [(.int 1), (.int 1)]), (.str "up")])]), some (.tup [(.tup [(.str "times"), (.tup [(.int 10), (.int 1)])]), (.tup [(.str "near"), (.tup [(.int 1), (.int 1)]), (.str "up")]), (.tup [(.str "times"), (.tup [(.int 1), (.int 10)])]), (.tup [(.str "near"), (.tup [(.int 1), (.int 1)]), (.str "up")])]), some (.tup [(.str "near"), (.tup [(.int 1), (.int 1)]), (.str "up")]), some (.tup [(.str "near"), (.tup [(.int 1), (.int 10)]), (.str "up")]), some (.tup [(.int (-11)), (.int 20)]), some (.tup [(.int 9), (.int 20)])] st := by kernel_rfl
theorem m10_11 (x0 x1 x2 x3 x4 x5 x6 x7 x8 x9 x10 : Option D) (st : Sto) : b_s11 [x0, x1, some (.int 10), some (.tup [(.tup [(.str "near"), (.tup [(.int 1), (.int 10)]), (.str "up")]), (.tup [(.str "near"), (.tup [(.int 1), (.int 1)]), (.str "up")])]), some (.tup [(.tup [(.str "near"), (.tup [(.int 1), (.int 10)]), (.str "down")]), (.tup [(.str "near"), (.tup [(.int 1), (.int 1)]), (.str "down")])]), some (.tup [(.tup [(.str "near"), (.tup [(.int 1), (.int 10)]), (.str "down")]), (.tup [(.str "near"), (.tup [(.int 1), (.int 1)]), (.str "up")])]), some (.tup [(.tup [(.str "times"), (.tup [(.int 10), (.int 1)])]), (.tup [(.str "near"), (.tup [(.int 1), (.int 1)]), (.str "up")]), (.tup [(.str "times"), (.tup [(.int 1), (.int 10)])]), (.tup [(.str "near"), (.tup [(.int 1), (.int 1)]), (.str "up")])]), some (.tup [(.str "near"), (.tup [(.int 1), (.int 1)]), (.str "up")]), some (.tup [(.str "near"), (.tup [(.int 1), (.int 10)]), (.str "up")]), some (.tup [(.int (-11)), (.int 20)]), some (.tup [(.int 9), (.int 20)])] st = .nx [x0, x1, some (.int 10), some (.tup [(.tup [(.str "near"), (.tup [(.int 1), (.int 10)]), (.str "up")]), (.tup [(.str "near"), (.tup [(.int 1), (.int 1)]), (.str "up")])]), some (.tup [(.tup [(.str "near"), (.tup [(.int 1), (.int 10)]), (.str "down")]), (.tup [(.str "near"), (.tup [(.int 1), (.int 1)]), (.str "down")])]), some (.tup [(.tup [(.str "near"), (.tup [(.int 1), (.int 10)]), (.str "down")]), (.tup [(.str "near"), (.tup [(.int 1), (.int 1)]), (.str "up")])]), some (.tup [(.tup [(.str "times"), (.tup [(.int 10), (.int 1)])]), (.tup [(.str "near"), (.tup [(.int 1), (.int 1)]), (.str "up")]), (.tup [(.str "times"), (.tup [(.int 1), (.int 10)])]), (.tup [(.str "near"), (.tup [(.int 1), (.int 1)]), (.str "up")])]), some (.tup [(.str "near"), (.tup [(.int 1), (.int 1)]), (.str "up")]), some (.tup [(.str "near"), (.tup [(.int 1), (.int 10)]), (.str "up")]), some (.tup [(.int (-11)), (.int 20)]), some (.tup [(.int 9), (.int 20)])] st := by kernel_rfl
theorem m10_all (x0 x1 x2 x3 x4 x5 x6 x7 x8 x9 x10 : Option D) (st : Sto) : ∃ y3 y4 y5 y6 y7 y8 y9 y10, (sSeq b_s1 (sSeq b_s2 (sSeq b_s3 (sSeq b_s4 (sSeq b_s5 (sSeq b_s6 (sSeq b_s7 (sSeq b_s8 (sSeq b_s9 (sSeq b_s10 b_s11)))))))))) [x0, x1, some (.int 10), x3, x4, x5, x6, x7, x8, x9, x10] st = .nx [x0, x1, some (.int 10), y3, y4, y5, y6, y7, y8, y9, y10] st := by
  refine ⟨some (.tup [(.tup [(.str "near"), (.tup [(.int 1), (.int 10)]), (.str "up")]), (.tup [(.str "near"), (.tup [(.int 1), (.int 1)]), (.str "up")])]), some (.tup [(.tup [(.str "near"), (.tup [(.int 1), (.int 10)]), (.str "down")]), (.tup [(.str "near"), (.tup [(.int 1), (.int 1)]), (.str "down")])]), some (.tup [(.tup [(.str "near"), (.tup [(.int 1), (.int 10)]), (.str "down")]), (.tup [(.str "near"), (.tup [(.int 1), (.int 1)]), (.str "up")])]), some (.tup [(.tup [(.str "times"), (.tup [(.int 10), (.int 1)])]), (.tup [(.str "near"), (.tup [(.int 1), (.int 1)]), (.str "up")]), (.tup [(.str "times"), (.tup [(.int 1), (.int 10)])]), (.tup [(.str "near"), (.tup [(.int 1), (.int 1)]), (.str "up")])]), some (.tup [(.str "near"), (.tup [(.int 1), (.int 1)]), (.str "up")]), some (.tup [(.str "near"), (.tup [(.int 1), (.int 10)]), (.str "up")]), some (.tup [(.int (-11)), (.int 20)]), some (.tup [(.int 9), (.int 20)]), ?_⟩
  rw [seq_nx (m10_1 x0 x1 x2 x3 x4 x5 x6 x7 x8 x9 x10 st), seq_nx (m10_2 x0 x1 x2 x3 x4 x5 x6 x7 x8 x9 x10 st), seq_nx (m10_3 x0 x1 x2 x3 x4 x5 x6 x7 x8 x9 x10 st), seq_nx (m10_4 x0 x1 x2 x3 x4 x5 x6 x7 x8 x9 x10 st), seq_nx (m10_5 x0 x1 x2 x3 x4 x5 x6 x7 x8 x9 x10 st), seq_nx (m10_6 x0 x1 x2 x3 x4 x5 x6 x7 x8 x9 x10 st), seq_nx (m10_7 x0 x1 x2 x3 x4 x5 x6 x7 x8 x9 x10 st), seq_nx (m10_8 x0 x1 x2 x3 x4 x5 x6 x7 x8 x9 x10 st), seq_nx (m10_9 x0 x1 x2 x3 x4 x5 x6 x7 x8 x9 x10 st), seq_nx (m10_10 x0 x1 x2 x3 x4 x5 x6 x7 x8 x9 x10 st)]
  exact m10_11 x0 x1 x2 x3 x4 x5 x6 x7 x8 x9 x10 st
theorem run_body {d : Nat} {st : Sto} (hd : IsDice st d) (x0 x2 x3 x4 x5 x6 x7 x8 x9 x10 : Option D) : ∃ (y2 y3 y4 y5 y6 y7 y8 y9 y10 : Option D) (st' : Sto), b_law [x0, some (.ref d), x2, x3, x4, x5, x6, x7, x8, x9, x10] st = .nx [x0, some (.ref d), y2, y3, y4, y5, y6, y7, y8, y9, y10] st' ∧ Upd st st' := by
  obtain ⟨x, s1, k1, h0, h1, u1, d1⟩ := run_roll hd (many := 9) (by decide) (by decide)
  have k0 : b_s0 [x0, some (.ref d), x2, x3, x4, x5, x6, x7, x8, x9, x10] st = .nx [x0, some (.ref d), some (.int (2 + x)), x3, x4, x5, x6, x7, x8, x9, x10] s1 := by
    simp only [b_s0, sAsg, dCall, aCons, aNil, dVar, dC, dFn, dBin, List.getElem?_cons_zero, List.getElem?_cons_succ, R.bind_ok, List.length_cons, List.length_nil, Nat.zero_add, Nat.reduceAdd, ↓reduceIte, k1, R.toS_ok, mName, List.set, addD]
  have fin : ∃ y3 y4 y5 y6 y7 y8 y9 y10, (sSeq b_s1 (sSeq b_s2 (sSeq b_s3 (sSeq b_s4 (sSeq b_s5 (sSeq b_s6 (sSeq b_s7 (sSeq b_s8 (sSeq b_s9 (sSeq b_s10 b_s11)))))))))) [x0, some (.ref d), some (.int (2 + x)), x3, x4, x5, x6, x7, x8, x9, x10] s1 = .nx [x0, some (.ref d), some (.int (2 + x)), y3, y4, y5, y6, y7, y8, y9, y10] s1 := by
    have hx : x = 0 ∨ x = 1 ∨ x = 2 ∨ x = 3 ∨ x = 4 ∨ x = 5 ∨ x = 6 ∨ x = 7 ∨ x = 8 := by omega
    rcases hx with rfl | rfl | rfl | rfl | rfl | rfl | rfl | rfl | rfl
    · exact m2_all x0 (some (.ref d)) x2 x3 x4 x5 x6 x7 x8 x9 x10 s1
    · exact m3_all x0 (some (.ref d)) x2 x3 x4 x5 x6 x7 x8 x9 x10 s1
    · exact m4_all x0 (some (.ref d)) x2 x3 x4 x5 x6 x7 x8 x9 x10 s1
    · exact m5_all x0 (some (.ref d)) x2 x3 x4 x5 x6 x7 x8 x9 x10 s1
    · exact m6_all x0 (some (.ref d)) x2 x3 x4 x5 x6 x7 x8 x9 x10 s1
    · exact m7_all x0 (some (.ref d)) x2 x3 x4 x5 x6 x7 x8 x9 x10 s1
    · exact m8_all x0 (some (.ref d)) x2 x3 x4 x5 x6 x7 x8 x9 x10 s1
    · exact m9_all x0 (some (.ref d)) x2 x3 x4 x5 x6 x7 x8 x9 x10 s1
    · exact m10_all x0 (some (.ref d)) x2 x3 x4 x5 x6 x7 x8 x9 x10 s1
  obtain ⟨y3, y4, y5, y6, y7, y8, y9, y10, k2⟩ := fin
  refine ⟨some (.int (2 + x)), y3, y4, y5, y6, y7, y8, y9, y10, s1, ?_, u1⟩
  rw [b_law_all, seq_nx k0]
  exact k2
theorem run_law (x0 : Option D) {rs : List Nat} : ∀ (n i : Nat) (x1 x2 x3 x4 x5 x6 x7 x8 x9 x10 : Option D) (st : Sto), i + n = rs.length → (∀ r ∈ rs, IsDice st r) → st[0]? = some (.lst (rs.map .ref)) →
    ∃ (y1 y2 y3 y4 y5 y6 y7 y8 y9 y10 : Option D) (st' : Sto), sForF (lstFeed 0) (mName 1) b_law n i [x0, x1, x2, x3, x4, x5, x6, x7, x8, x9, x10] st = .nx [x0, y1, y2, y3, y4, y5, y6, y7, y8, y9, y10] st' := by
  have nt : ∀ a b : Int, Cell.lst (rs.map .ref) ≠ .lst [.int a, .int b] := fun a b z => by
    have z' := Cell.lst.inj z
    cases rs with
    | nil => cases z'
    | cons r t =>
      rw [List.map_cons] at z'
      cases (List.cons.inj z').1
  intro n
  induction n with
  | zero =>
    intro i x1 x2 x3 x4 x5 x6 x7 x8 x9 x10 st hi hd hr
    have hn : (rs.map D.ref)[i]? = none := List.getElem?_eq_none (by rw [List.length_map]; omega)
    refine ⟨x1, x2, x3, x4, x5, x6, x7, x8, x9, x10, st, ?_⟩
    simp only [sForF, lstFeed, hr, hn]
  | succ n ih =>
    intro i x1 x2 x3 x4 x5 x6 x7 x8 x9 x10 st hi hd hr
    have hlt : i < rs.length := by omega
    have ex : (rs.map D.ref)[i]? = some (.ref rs[i]) := by rw [List.getElem?_map, List.getElem?_eq_getElem hlt]; rfl
    obtain ⟨y2, y3, y4, y5, y6, y7, y8, y9, y10, s1, k1, u1⟩ := run_body (hd _ (List.getElem_mem hlt)) x0 x2 x3 x4 x5 x6 x7 x8 x9 x10
    obtain ⟨z1, z2, z3, z4, z5, z6, z7, z8, z9, z10, s2, k2⟩ := ih (i + 1) (some (.ref rs[i])) y2 y3 y4 y5 y6 y7 y8 y9 y10 s1 (by omega) (fun r h => (hd r h).upd u1) (u1.keep hr nt)
    refine ⟨z1, z2, z3, z4, z5, z6, z7, z8, z9, z10, s2, ?_⟩
    rw [← k2]
    simp only [sForF, lstFeed, hr, ex, mName, List.set, R.toS_ok, k1, O.loop]
theorem law_true (ns : List Int) (hl : ns.length ≤ 63) (hb : ∀ z ∈ ns, Builtin.Int.intBits z ≤ 1048576) : ∃ st', M_law [.kl (ns.map .int)] [] = .ok (.bl true) st' := by
  obtain ⟨rs, s1, k1, hd, hc⟩ := run_rounds ns hl
  obtain ⟨z1, z2, z3, z4, z5, z6, z7, z8, z9, z10, s2, k2⟩ := run_law (some (.kl (ns.map .int))) (rs := rs) rs.length 0 none none none none none none none none none none s1 (by omega) hd hc
  refine ⟨s2, ?_⟩
  simp only [M_law, m_law_eq, sFor, itSeq, sSeq, sAsg, sIf, sRet, sRetN, sNext, sDrop, sPar, sNo, sRaise, sBreak, sCont, dVar, dC, dBin, dUn, dCall, aNil, aCons, dTup, dLst, tVal, tAndD, tOrD, tNotD, dAndV, dOrV, dNotV, dIf, dChain, tTru, truthD, mName, mNil, mCons, mTup, mSub, dFn, O.res, R.bind_ok, R.bind_er, R.bind_no, R.toS_ok, R.toS_er, R.toS_no, O.thn_nx, O.thn_rt, O.thn_er, O.thn_bk, O.thn_ct, O.thn_no, startE, List.map, List.length_cons, List.length_nil, List.replicate, List.cons_append, List.nil_append, List.append_assoc, List.getElem?_cons_zero, List.getElem?_cons_succ, List.set, List.length_append, at_k, at_0, seq_k, seq_0, seq_c0, seq_cs, d_eq_int, d_ne_int, d_eq_str, d_ne_str, d_eq_bl, d_add_int, d_sub_int, d_neg_int, d_cmp_int, d_ix_tup, d_ix_kl, d_ix_ref, atI_0, atI_1, atI_2, Nat.zero_add, Nat.add_zero, Nat.add_assoc, Nat.reduceAdd, Nat.reduceLeDiff, Nat.reduceSub, Nat.reduceLT, ↓reduceIte, Bool.not_true, Bool.not_false, Bool.false_eq_true, nc_0, nc_1, nc_2, nc_3, nc_4, k1, hc, List.length_map, k2]
end Pk


set_option Elab.async false
set_option linter.all false
set_option maxRecDepth 100000
set_option maxHeartbeats 2000000
/-! Constants of the text that are tuples of numbers, of such. -/
namespace Dt
open PySem PySem.Spec PyProof.Rows L2 Dn Hh
/-- a tuple in the written part -/
structure TupK (K : PySem.W.Frag) (a : Addr) (vs : List V) : Prop where
  ex : ∃ (od : Option Addr) (its : Array Value) (n : Nat) (osl : Array (Option Value)), K.lookup a = some ⟨.type "tuple", od, .seq its n, osl⟩ ∧ its.size ≤ sizeLine ∧ Vals vs its.toList
theorem TupK.mk' {K : PySem.W.Frag} {vs : List V} {a : Addr} {od : Option Addr} {its : Array Value} {n : Nat} {osl : Array (Option Value)} (h2 : K.lookup a = some ⟨.type "tuple", od, .seq its n, osl⟩)
    (h3 : Vals vs its.toList) (h4 : vs.length ≤ 1000 := by decide) : TupK K a vs := ⟨_, _, _, _, h2, by
  have e : vs.length = its.size := by
    have q := h3.length
    simpa using q
  rw [← e]
  exact Nat.le_trans h4 (Nat.le_trans (by decide) line5), h3⟩
theorem TupK.sq {K : PySem.W.Frag} {vs : List V} {a : Addr} (t : TupK K a vs) (H : Hp) : SqT K H a vs := by
  obtain ⟨od, its, n, osl, h2, h3, h4⟩ := t.ex
  exact .inr ⟨_, its, n, h2, rfl, rfl, h3, h4⟩
structure FlatIs (K : PySem.W.Frag) (x : Str) (vs : List V) : Prop where
  ex : ∃ a, PySem.W.nsIn K mainGlobals x = some (some (.ref a)) ∧ TupK K a vs
theorem FlatIs.mk' {K : PySem.W.Frag} {x : Str} {vs : List V} {a : Addr} {od : Option Addr} {its : Array Value} {n : Nat} {osl : Array (Option Value)} (h1 : PySem.W.nsIn K mainGlobals x = some (some (.ref a))) (h2 : K.lookup a = some ⟨.type "tuple", od, .seq its n, osl⟩)
    (h3 : Vals vs its.toList) (h4 : vs.length ≤ 1000 := by decide) : FlatIs K x vs := ⟨⟨a, h1, TupK.mk' h2 h3 h4⟩⟩
theorem FlatIs.tup {K : PySem.W.Frag} {x : Str} {vs : List V} {ds : List D} {h : Heap} {mg : Str → Option Value} (e : FlatIs K x vs) (X : K.In h) (G : h.Ns mainGlobals mg) (r : ∀ H ρ, EVs K H ρ ds vs) : KTup K mg x (.tup ds) := by
  obtain ⟨a, h1, t⟩ := e.ex
  exact ⟨a, PySem.W.mg_of X G h1, fun H ρ => .tup (t.sq H) (r H ρ)⟩
/-- two tuples in one -/
structure Nest2Is (K : PySem.W.Frag) (x : Str) (vs ws : List V) : Prop where
  ex : ∃ a b c, PySem.W.nsIn K mainGlobals x = some (some (.ref a)) ∧ TupK K a [.ref b, .ref c] ∧ TupK K b vs ∧ TupK K c ws
theorem Nest2Is.mk' {K : PySem.W.Frag} {x : Str} {vs ws : List V} {a b c : Addr} {od od1 od2 : Option Addr} {n n1 n2 : Nat} {its1 its2 : Array Value} {osl osl1 osl2 : Array (Option Value)} (h1 : PySem.W.nsIn K mainGlobals x = some (some (.ref a)))
    (h2 : K.lookup a = some ⟨.type "tuple", od, .seq #[.ref b, .ref c] n, osl⟩) (l1 : K.lookup b = some ⟨.type "tuple", od1, .seq its1 n1, osl1⟩) (l2 : K.lookup c = some ⟨.type "tuple", od2, .seq its2 n2, osl2⟩)
    (v1 : Vals vs its1.toList) (v2 : Vals ws its2.toList) (h4 : vs.length ≤ 1000 := by decide) (h5 : ws.length ≤ 1000 := by decide) : Nest2Is K x vs ws :=
  ⟨⟨a, b, c, h1, TupK.mk' h2 (.cons rfl (.cons rfl .nil)) (by show 2 ≤ 1000; decide), TupK.mk' l1 v1 h4, TupK.mk' l2 v2 h5⟩⟩
theorem Nest2Is.tup {K : PySem.W.Frag} {x : Str} {vs ws : List V} {ds es : List D} {h : Heap} {mg : Str → Option Value} (e : Nest2Is K x vs ws) (X : K.In h) (G : h.Ns mainGlobals mg) (r : ∀ H ρ, EVs K H ρ ds vs) (s : ∀ H ρ, EVs K H ρ es ws) : KTup K mg x (.tup [.tup ds, .tup es]) := by
  obtain ⟨a, b, c, h1, t, t1, t2⟩ := e.ex
  exact ⟨a, PySem.W.mg_of X G h1, fun H ρ => .tup (t.sq H) (.cons (.tup (t1.sq H) (r H ρ)) (.cons (.tup (t2.sq H) (s H ρ)) .nil))⟩
/-- a law that makes no function: no tables -/
theorem law_at0 {l : PySem.W.OpenLaw} {w : World} {K : PySem.W.Frag} {mg : Str → Option Value} {h : Heap} {fa : Addr} {k n : Nat} {x : Str} {st : Stmt} {C : Nat → Addr} {M : FN} {nm : Str} (X : K.In h) (G : h.Ns mainGlobals mg) (hfa : mg nm = some (.ref fa)) (L : DefIs K nm st)
    (hb : ∀ (kV doc pm : Value) (an : Option Addr) (cdv ct : Value) (us : List Value), us.length = 1 → bindArgs (PySem.W.fnOf nm nm (defArgs st) (defBody st) (defScope st) .none kV doc pm an cdv ct) ⟨us, []⟩ = pure ([x].zip us))
    (hF : ∀ (f : Addr) (fd : FuncData) (base : Heap), Def K mg nm st [x] f fd → K.In base → base.Ns mainGlobals mg → FnOk l.prog w K mg base (L2N.CX l.prog w) k f fd [x] (spM K [] C 1 M))
    (hM : ∀ ns : List Int, ns.length ≤ n → (∀ z ∈ ns, Builtin.Int.intBits z ≤ 1048576) → ∃ st', M [.kl (ns.map .int)] [] = .ok (.bl true) st') : LamX.LawAtS l w K (L2N.CX l.prog w) k n x mg fa h := by
  obtain ⟨f, oc, od, an, kV, doc, pm, cdv, ct, osl, a, lk, cc, kp⟩ := L.ex
  have e := hfa.symm.trans (PySem.W.mg_of X G a)
  cases e
  have Fm := fun_mk (st := st) lk cc kp
  have Df : Def K mg nm st [x] fa (PySem.W.fnOf nm nm (defArgs st) (defBody st) (defScope st) .none kV doc pm an cdv ct) := ⟨Fm, hfa, Fm.binds hb⟩
  refine ⟨_, [], spM K [] C 1 M, ?_, ?_, ?_, fun s u => .of_eq (hb kV doc pm an cdv ct [u] rfl), fun H a ns h1 h2 h3 h4 => ?_, fun base hK hN hT => hF fa _ base Df hK hN⟩
  · intro p hp
    simp at hp
  · intro p hp
    simp at hp
  · intro p hp
    simp at hp
  obtain ⟨st', e⟩ := hM ns h1 h2
  have hq : SqF K H [] a (ns.map V.int) := by
    rcases h4 with (z | ⟨o, z⟩) | z
    · exact .inl (.inr ⟨z, fun m => nomatch m⟩)
    · exact .inl (.inl ⟨o, z⟩)
    · exact .inr z
  refine ⟨[.kl (ns.map .int)], [], [], rfl, .cons (.kl hq (evs_map_int ns)) .nil, ⟨fun p hp => by simp at hp, rfl, List.nodup_nil, fun i a c z => by cases z⟩, ?_⟩
  rw [e]
  intro ρ' H' v f ev es
  cases ev
  rfl
/-- an error's class in the written part, that is only raised -/
structure ExIs (K : PySem.W.Frag) (x : Str) (c : Addr) : Prop where
  a : PySem.W.nsIn K mainGlobals x = some (some (.ref c))
  ex : PySem.W.excIn K c [.type "ValueError", .type "Exception", .type "BaseException", .type "object"] "ValueError.__new__" = true
  kp : PySem.W.keepIn K (.ref c) = true
  sb : PySem.W.subIn K (.ref c) (.type "BaseException") = some true
  ty : PySem.W.typeIn K (.ref c) = some (.type "type")
theorem ExIs.exc {K : PySem.W.Frag} {x : Str} {c : Addr} {h : Heap} {mg : Str → Option Value} (e : ExIs K x c) (X : K.In h) (G : h.Ns mainGlobals mg) : Exc K mg x c := ⟨PySem.W.mg_of X G e.a, e.ex, e.kp, e.sb, e.ty⟩
end Dt

set_option Elab.async false
set_option linter.all false
set_option maxRecDepth 100000
set_option maxHeartbeats 4000000
namespace Lw
open PySem PySem.Spec PyProof.Rows L2 Dn Dt Hh Pk
theorem all_mk {l : PySem.W.OpenLaw} {w : World} {K : PySem.W.Frag} {h : Heap} {mg : Str → Option Value} {fa C0 C1 C2 : Addr} (X : K.In h) (G : h.Ns mainGlobals mg) (hfa : mg "law" = some (.ref fa))
    (dL : DefIs K "law" s_law)  (E0 : Dt.ExIs K "InvalidChain" C0) (E1 : Dt.ExIs K "InvalidNumber" C1) (E2 : Dt.ExIs K "TooMany" C2) 
    
    (z_abs : PySem.W.nsIn K mainGlobals "abs" = some none)
    (z_all : PySem.W.nsIn K mainGlobals "all" = some none)
    (z_bool : PySem.W.nsIn K mainGlobals "bool" = some none)
    (z_enumerate : PySem.W.nsIn K mainGlobals "enumerate" = some none)
    (z_int : PySem.W.nsIn K mainGlobals "int" = some none)
    (z_isinstance : PySem.W.nsIn K mainGlobals "isinstance" = some none)
    (z_len : PySem.W.nsIn K mainGlobals "len" = some none)
    (z_list : PySem.W.nsIn K mainGlobals "list" = some none)
    (z_max : PySem.W.nsIn K mainGlobals "max" = some none)
    (z_min : PySem.W.nsIn K mainGlobals "min" = some none)
    (z_range : PySem.W.nsIn K mainGlobals "range" = some none)
    (z_sorted : PySem.W.nsIn K mainGlobals "sorted" = some none)
    (z_str : PySem.W.nsIn K mainGlobals "str" = some none)
    (z_tuple : PySem.W.nsIn K mainGlobals "tuple" = some none)
    (z_zip : PySem.W.nsIn K mainGlobals "zip" = some none)
    (t_ALL_NUMBERS : Dt.FlatIs K "ALL_NUMBERS" [.non, .non, (.bl false), (.bl false)])
    (t_BY_MULTIPLES : StrsIs K "BY_MULTIPLES" ["down", "up", "rest"])
    (i_LARGEST_IN_NUMBER : KInt mg "LARGEST_IN_NUMBER" 1000000000000000000000000000000)
    {u_LARGEST_IN_STEP : Tok} (i_LARGEST_IN_STEP : PySem.W.nsIn K mainGlobals "LARGEST_IN_STEP" = some (some (.int 10 u_LARGEST_IN_STEP)))
    {u_MOST_PLACES : Tok} (i_MOST_PLACES : PySem.W.nsIn K mainGlobals "MOST_PLACES" = some (some (.int 2000 u_MOST_PLACES)))
    {u_MOST_STEPS : Tok} (i_MOST_STEPS : PySem.W.nsIn K mainGlobals "MOST_STEPS" = some (some (.int 4 u_MOST_STEPS)))
    (t_NOTHING : Dt.FlatIs K "NOTHING" [(.int 0), (.int 1)])
    (t_NO_STEPS : Dt.Nest2Is K "NO_STEPS" [(.int 1), (.int 1)] [(.int 0), (.int 1)])
    (t_ONE : Dt.FlatIs K "ONE" [(.int 1), (.int 1)])
    (t_TIES : StrsIs K "TIES" ["up", "down", "even", "odd"])
    (m_gcd : PySem.W.nsIn K mainGlobals "gcd" = some (some (.builtin "math.gcd")))
    (m_lcm : PySem.W.nsIn K mainGlobals "lcm" = some (some (.builtin "math.lcm")))
    (d__law_cell : DefIs K "_law_cell" s__law_cell)
    (d__law_rounds : DefIs K "_law_rounds" s__law_rounds)
    (d__law_drawn : DefIs K "_law_drawn" s__law_drawn)
    (d__law_roll : DefIs K "_law_roll" s__law_roll)
    (d_is_integer : DefIs K "is_integer" s_is_integer)
    (d_is_fraction : DefIs K "is_fraction" s_is_fraction)
    (d_is_tie : DefIs K "is_tie" s_is_tie)
    (d_is_amount_of : DefIs K "is_amount_of" s_is_amount_of)
    (d_is_step : DefIs K "is_step" s_is_step)
    (d_is_chain : DefIs K "is_chain" s_is_chain)
    (d_check_chain : DefIs K "check_chain" s_check_chain)
    (d_is_line : DefIs K "is_line" s_is_line)
    (d_reduced : DefIs K "reduced" s_reduced)
    (d_plus : DefIs K "plus" s_plus)
    (d_raised : DefIs K "raised" s_raised)
    (d_times : DefIs K "times" s_times)
    (d_multiplied : DefIs K "multiplied" s_multiplied)
    (d_size : DefIs K "size" s_size)
    (d_inverse : DefIs K "inverse" s_inverse)
    (d_span_in_units : DefIs K "span_in_units" s_span_in_units)
    (d_as_wave : DefIs K "as_wave" s_as_wave)
    (d_grid_bottom : DefIs K "grid_bottom" s_grid_bottom)
    (d_on_grid : DefIs K "on_grid" s_on_grid)
    (d_minus : DefIs K "minus" s_minus)
    (d_line_ahead : DefIs K "line_ahead" s_line_ahead)
    (d_marks_of : DefIs K "marks_of" s_marks_of)
    (d_crossings : DefIs K "crossings" s_crossings)
    (d_tied_count : DefIs K "tied_count" s_tied_count)
    (d_nearest_count : DefIs K "nearest_count" s_nearest_count)
    (d_whole_count : DefIs K "whole_count" s_whole_count)
    (d_stepped_value : DefIs K "stepped_value" s_stepped_value)
    (d_stepped_marks : DefIs K "stepped_marks" s_stepped_marks)
    (d_repeated : DefIs K "repeated" s_repeated)
    (d_is_repeated : DefIs K "is_repeated" s_is_repeated)
    (d_least_many : DefIs K "least_many" s_least_many)
    (d_from_grid : DefIs K "from_grid" s_from_grid)
    (d_cut_even : DefIs K "cut_even" s_cut_even)
    (d_cut : DefIs K "cut" s_cut)
    (d_followed : DefIs K "followed" s_followed)
    (d_form : DefIs K "form" s_form)
    (d_forms_of : DefIs K "forms_of" s_forms_of)
    (d_same : DefIs K "same" s_same)
    (d_least_multiple : DefIs K "least_multiple" s_least_multiple)
    (d_period_of : DefIs K "period_of" s_period_of)
    (d_common_period : DefIs K "common_period" s_common_period)
    (d_places_of : DefIs K "places_of" s_places_of)
    (d_count_periods : DefIs K "count_periods" s_count_periods)
    (d_count_places : DefIs K "count_places" s_count_places)
    (d_check_places : DefIs K "check_places" s_check_places)
    (d_growth_of : DefIs K "growth_of" s_growth_of)
    (d_starts_of : DefIs K "starts_of" s_starts_of)
    (d_ascending : DefIs K "ascending" s_ascending)
    (d_at_line : DefIs K "at_line" s_at_line)
    (d_start_at : DefIs K "start_at" s_start_at)
    (d_list_gaps : DefIs K "list_gaps" s_list_gaps)
    (d_compared : DefIs K "compared" s_compared)
    (d_unlike_share : DefIs K "unlike_share" s_unlike_share)
    (d_is_less : DefIs K "is_less" s_is_less)
    (d_greater_gap : DefIs K "greater_gap" s_greater_gap)
    (d_greatest_gap : DefIs K "greatest_gap" s_greatest_gap)
    (d_check_number : DefIs K "check_number" s_check_number)
    (d_single : DefIs K "single" s_single)
    (d_number_on_line : DefIs K "number_on_line" s_number_on_line)
    (d_line_sources : DefIs K "line_sources" s_line_sources)
    (d_pieces_of : DefIs K "pieces_of" s_pieces_of)
    (d_turn_between : DefIs K "turn_between" s_turn_between)
    (d_source_in : DefIs K "source_in" s_source_in)
    (d_merged : DefIs K "merged" s_merged)
    (d_sources : DefIs K "sources" s_sources)
    (d__law_low : DefIs K "_law_low" s__law_low)
    (d_lines_ahead : DefIs K "lines_ahead" s_lines_ahead)
    (d_rises : DefIs K "rises" s_rises)
    (d_step_value : DefIs K "step_value" s_step_value)
    (d_value : DefIs K "value" s_value)
    (d_keeps_values : DefIs K "keeps_values" s_keeps_values)
    (d_keeps : DefIs K "keeps" s_keeps)
    : LamX.LawAtS l w K (L2N.CX l.prog w) 13 63 "_law_script" mg fa h := by
  have Γ : Gs K mg (cOf [C0, C1, C2]) := { b_abs := PySem.W.mg_none_of X G z_abs, b_all := PySem.W.mg_none_of X G z_all, b_bool := PySem.W.mg_none_of X G z_bool, b_enumerate := PySem.W.mg_none_of X G z_enumerate, b_int := PySem.W.mg_none_of X G z_int, b_isinstance := PySem.W.mg_none_of X G z_isinstance, b_len := PySem.W.mg_none_of X G z_len, b_list := PySem.W.mg_none_of X G z_list, b_max := PySem.W.mg_none_of X G z_max, b_min := PySem.W.mg_none_of X G z_min, b_range := PySem.W.mg_none_of X G z_range, b_sorted := PySem.W.mg_none_of X G z_sorted, b_str := PySem.W.mg_none_of X G z_str, b_tuple := PySem.W.mg_none_of X G z_tuple, b_zip := PySem.W.mg_none_of X G z_zip, c_ALL_NUMBERS := t_ALL_NUMBERS.tup X G (fun _ _ => .cons .non (.cons .non (.cons (.bl _) (.cons (.bl _) (.nil))))), c_BY_MULTIPLES := t_BY_MULTIPLES.tup X G, c_LARGEST_IN_NUMBER := i_LARGEST_IN_NUMBER, c_LARGEST_IN_STEP := ⟨_, PySem.W.mg_of X G i_LARGEST_IN_STEP⟩, c_MOST_PLACES := ⟨_, PySem.W.mg_of X G i_MOST_PLACES⟩, c_MOST_STEPS := ⟨_, PySem.W.mg_of X G i_MOST_STEPS⟩, c_NOTHING := t_NOTHING.tup X G (fun _ _ => .cons (.int _) (.cons (.int _) (.nil))), c_NO_STEPS := t_NO_STEPS.tup X G (fun _ _ => .cons (.int _) (.cons (.int _) (.nil))) (fun _ _ => .cons (.int _) (.cons (.int _) (.nil))), c_ONE := t_ONE.tup X G (fun _ _ => .cons (.int _) (.cons (.int _) (.nil))), c_TIES := t_TIES.tup X G, e_InvalidChain := E0.exc X G, e_InvalidNumber := E1.exc X G, e_TooMany := E2.exc X G, m_gcd := PySem.W.mg_of X G m_gcd, m_lcm := PySem.W.mg_of X G m_lcm }
  obtain ⟨f__law_cell, fd__law_cell, D__law_cell⟩ := d__law_cell.def X G (ps := ["_law_script", "_law_k"]) (fun _ _ _ _ _ _ us hl => match us, hl with | [_, _], _ => rfl)
  obtain ⟨f__law_rounds, fd__law_rounds, D__law_rounds⟩ := d__law_rounds.def X G (ps := ["_law_script", "_law_most"]) (fun _ _ _ _ _ _ us hl => match us, hl with | [_, _], _ => rfl)
  obtain ⟨f__law_drawn, fd__law_drawn, D__law_drawn⟩ := d__law_drawn.def X G (ps := ["_law_cell_here", "_law_k"]) (fun _ _ _ _ _ _ us hl => match us, hl with | [_, _], _ => rfl)
  obtain ⟨f__law_roll, fd__law_roll, D__law_roll⟩ := d__law_roll.def X G (ps := ["_law_dice", "_law_many"]) (fun _ _ _ _ _ _ us hl => match us, hl with | [_, _], _ => rfl)
  obtain ⟨f_is_integer, fd_is_integer, D_is_integer⟩ := d_is_integer.def X G (ps := ["value"]) (fun _ _ _ _ _ _ us hl => match us, hl with | [_], _ => rfl)
  obtain ⟨f_is_fraction, fd_is_fraction, D_is_fraction⟩ := d_is_fraction.def X G (ps := ["value", "largest"]) (fun _ _ _ _ _ _ us hl => match us, hl with | [_, _], _ => rfl)
  obtain ⟨f_is_tie, fd_is_tie, D_is_tie⟩ := d_is_tie.def X G (ps := ["value"]) (fun _ _ _ _ _ _ us hl => match us, hl with | [_], _ => rfl)
  obtain ⟨f_is_amount_of, fd_is_amount_of, D_is_amount_of⟩ := d_is_amount_of.def X G (ps := ["name", "amount"]) (fun _ _ _ _ _ _ us hl => match us, hl with | [_, _], _ => rfl)
  obtain ⟨f_is_step, fd_is_step, D_is_step⟩ := d_is_step.def X G (ps := ["value"]) (fun _ _ _ _ _ _ us hl => match us, hl with | [_], _ => rfl)
  obtain ⟨f_is_chain, fd_is_chain, D_is_chain⟩ := d_is_chain.def X G (ps := ["value"]) (fun _ _ _ _ _ _ us hl => match us, hl with | [_], _ => rfl)
  obtain ⟨f_check_chain, fd_check_chain, D_check_chain⟩ := d_check_chain.def X G (ps := ["chain"]) (fun _ _ _ _ _ _ us hl => match us, hl with | [_], _ => rfl)
  obtain ⟨f_is_line, fd_is_line, D_is_line⟩ := d_is_line.def X G (ps := ["shape"]) (fun _ _ _ _ _ _ us hl => match us, hl with | [_], _ => rfl)
  obtain ⟨f_reduced, fd_reduced, D_reduced⟩ := d_reduced.def X G (ps := ["top", "bottom"]) (fun _ _ _ _ _ _ us hl => match us, hl with | [_, _], _ => rfl)
  obtain ⟨f_plus, fd_plus, D_plus⟩ := d_plus.def X G (ps := ["one", "other"]) (fun _ _ _ _ _ _ us hl => match us, hl with | [_, _], _ => rfl)
  obtain ⟨f_raised, fd_raised, D_raised⟩ := d_raised.def X G (ps := ["shape", "amount"]) (fun _ _ _ _ _ _ us hl => match us, hl with | [_, _], _ => rfl)
  obtain ⟨f_times, fd_times, D_times⟩ := d_times.def X G (ps := ["one", "other"]) (fun _ _ _ _ _ _ us hl => match us, hl with | [_, _], _ => rfl)
  obtain ⟨f_multiplied, fd_multiplied, D_multiplied⟩ := d_multiplied.def X G (ps := ["shape", "factor"]) (fun _ _ _ _ _ _ us hl => match us, hl with | [_, _], _ => rfl)
  obtain ⟨f_size, fd_size, D_size⟩ := d_size.def X G (ps := ["fraction"]) (fun _ _ _ _ _ _ us hl => match us, hl with | [_], _ => rfl)
  obtain ⟨f_inverse, fd_inverse, D_inverse⟩ := d_inverse.def X G (ps := ["fraction"]) (fun _ _ _ _ _ _ us hl => match us, hl with | [_], _ => rfl)
  obtain ⟨f_span_in_units, fd_span_in_units, D_span_in_units⟩ := d_span_in_units.def X G (ps := ["step"]) (fun _ _ _ _ _ _ us hl => match us, hl with | [_], _ => rfl)
  obtain ⟨f_as_wave, fd_as_wave, D_as_wave⟩ := d_as_wave.def X G (ps := ["shape", "span"]) (fun _ _ _ _ _ _ us hl => match us, hl with | [_, _], _ => rfl)
  obtain ⟨f_grid_bottom, fd_grid_bottom, D_grid_bottom⟩ := d_grid_bottom.def X G (ps := ["wave", "unit"]) (fun _ _ _ _ _ _ us hl => match us, hl with | [_, _], _ => rfl)
  obtain ⟨f_on_grid, fd_on_grid, D_on_grid⟩ := d_on_grid.def X G (ps := ["fraction", "bottom"]) (fun _ _ _ _ _ _ us hl => match us, hl with | [_, _], _ => rfl)
  obtain ⟨f_minus, fd_minus, D_minus⟩ := d_minus.def X G (ps := ["one", "other"]) (fun _ _ _ _ _ _ us hl => match us, hl with | [_, _], _ => rfl)
  obtain ⟨f_line_ahead, fd_line_ahead, D_line_ahead⟩ := d_line_ahead.def X G (ps := ["wave"]) (fun _ _ _ _ _ _ us hl => match us, hl with | [_], _ => rfl)
  obtain ⟨f_marks_of, fd_marks_of, D_marks_of⟩ := d_marks_of.def X G (ps := ["wave", "bottom"]) (fun _ _ _ _ _ _ us hl => match us, hl with | [_, _], _ => rfl)
  obtain ⟨f_crossings, fd_crossings, D_crossings⟩ := d_crossings.def X G (ps := ["marks", "sign", "period", "step", "width"]) (fun _ _ _ _ _ _ us hl => match us, hl with | [_, _, _, _, _], _ => rfl)
  obtain ⟨f_tied_count, fd_tied_count, D_tied_count⟩ := d_tied_count.def X G (ps := ["low", "tie"]) (fun _ _ _ _ _ _ us hl => match us, hl with | [_, _], _ => rfl)
  obtain ⟨f_nearest_count, fd_nearest_count, D_nearest_count⟩ := d_nearest_count.def X G (ps := ["low", "beyond", "tie"]) (fun _ _ _ _ _ _ us hl => match us, hl with | [_, _, _], _ => rfl)
  obtain ⟨f_whole_count, fd_whole_count, D_whole_count⟩ := d_whole_count.def X G (ps := ["step", "top", "bottom"]) (fun _ _ _ _ _ _ us hl => match us, hl with | [_, _, _], _ => rfl)
  obtain ⟨f_stepped_value, fd_stepped_value, D_stepped_value⟩ := d_stepped_value.def X G (ps := ["step", "width", "value", "beside"]) (fun _ _ _ _ _ _ us hl => match us, hl with | [_, _, _, _], _ => rfl)
  obtain ⟨f_stepped_marks, fd_stepped_marks, D_stepped_marks⟩ := d_stepped_marks.def X G (ps := ["marks", "sign", "step", "width"]) (fun _ _ _ _ _ _ us hl => match us, hl with | [_, _, _, _], _ => rfl)
  obtain ⟨f_repeated, fd_repeated, D_repeated⟩ := d_repeated.def X G (ps := ["marks", "period", "rise", "copies"]) (fun _ _ _ _ _ _ us hl => match us, hl with | [_, _, _, _], _ => rfl)
  obtain ⟨f_is_repeated, fd_is_repeated, D_is_repeated⟩ := d_is_repeated.def X G (ps := ["places", "many", "period", "rise"]) (fun _ _ _ _ _ _ us hl => match us, hl with | [_, _, _, _], _ => rfl)
  obtain ⟨f_least_many, fd_least_many, D_least_many⟩ := d_least_many.def X G (ps := ["places", "period", "rise"]) (fun _ _ _ _ _ _ us hl => match us, hl with | [_, _, _], _ => rfl)
  obtain ⟨f_from_grid, fd_from_grid, D_from_grid⟩ := d_from_grid.def X G (ps := ["course", "bottom"]) (fun _ _ _ _ _ _ us hl => match us, hl with | [_, _], _ => rfl)
  obtain ⟨f_cut_even, fd_cut_even, D_cut_even⟩ := d_cut_even.def X G (ps := ["shape", "step", "unit"]) (fun _ _ _ _ _ _ us hl => match us, hl with | [_, _, _], _ => rfl)
  obtain ⟨f_cut, fd_cut, D_cut⟩ := d_cut.def X G (ps := ["shape", "step"]) (fun _ _ _ _ _ _ us hl => match us, hl with | [_, _], _ => rfl)
  obtain ⟨f_followed, fd_followed, D_followed⟩ := d_followed.def X G (ps := ["shape", "chain"]) (fun _ _ _ _ _ _ us hl => match us, hl with | [_, _], _ => rfl)
  obtain ⟨f_form, fd_form, D_form⟩ := d_form.def X G (ps := ["chain"]) (fun _ _ _ _ _ _ us hl => match us, hl with | [_], _ => rfl)
  obtain ⟨f_forms_of, fd_forms_of, D_forms_of⟩ := d_forms_of.def X G (ps := ["chain", "other"]) (fun _ _ _ _ _ _ us hl => match us, hl with | [_, _], _ => rfl)
  obtain ⟨f_same, fd_same, D_same⟩ := d_same.def X G (ps := ["chain", "other"]) (fun _ _ _ _ _ _ us hl => match us, hl with | [_, _], _ => rfl)
  obtain ⟨f_least_multiple, fd_least_multiple, D_least_multiple⟩ := d_least_multiple.def X G (ps := ["one", "other"]) (fun _ _ _ _ _ _ us hl => match us, hl with | [_, _], _ => rfl)
  obtain ⟨f_period_of, fd_period_of, D_period_of⟩ := d_period_of.def X G (ps := ["shape"]) (fun _ _ _ _ _ _ us hl => match us, hl with | [_], _ => rfl)
  obtain ⟨f_common_period, fd_common_period, D_common_period⟩ := d_common_period.def X G (ps := ["one", "other"]) (fun _ _ _ _ _ _ us hl => match us, hl with | [_, _], _ => rfl)
  obtain ⟨f_places_of, fd_places_of, D_places_of⟩ := d_places_of.def X G (ps := ["shape"]) (fun _ _ _ _ _ _ us hl => match us, hl with | [_], _ => rfl)
  obtain ⟨f_count_periods, fd_count_periods, D_count_periods⟩ := d_count_periods.def X G (ps := ["shape", "end"]) (fun _ _ _ _ _ _ us hl => match us, hl with | [_, _], _ => rfl)
  obtain ⟨f_count_places, fd_count_places, D_count_places⟩ := d_count_places.def X G (ps := ["shape", "end"]) (fun _ _ _ _ _ _ us hl => match us, hl with | [_, _], _ => rfl)
  obtain ⟨f_check_places, fd_check_places, D_check_places⟩ := d_check_places.def X G (ps := ["one", "other", "end"]) (fun _ _ _ _ _ _ us hl => match us, hl with | [_, _, _], _ => rfl)
  obtain ⟨f_growth_of, fd_growth_of, D_growth_of⟩ := d_growth_of.def X G (ps := ["shape"]) (fun _ _ _ _ _ _ us hl => match us, hl with | [_], _ => rfl)
  obtain ⟨f_starts_of, fd_starts_of, D_starts_of⟩ := d_starts_of.def X G (ps := ["shape", "end"]) (fun _ _ _ _ _ _ us hl => match us, hl with | [_, _], _ => rfl)
  obtain ⟨f_ascending, fd_ascending, D_ascending⟩ := d_ascending.def X G (ps := ["numbers"]) (fun _ _ _ _ _ _ us hl => match us, hl with | [_], _ => rfl)
  obtain ⟨f_at_line, fd_at_line, D_at_line⟩ := d_at_line.def X G (ps := ["slope", "number", "line"]) (fun _ _ _ _ _ _ us hl => match us, hl with | [_, _, _], _ => rfl)
  obtain ⟨f_start_at, fd_start_at, D_start_at⟩ := d_start_at.def X G (ps := ["starts", "number", "slope", "last"]) (fun _ _ _ _ _ _ us hl => match us, hl with | [_, _, _, _], _ => rfl)
  obtain ⟨f_list_gaps, fd_list_gaps, D_list_gaps⟩ := d_list_gaps.def X G (ps := ["one", "other", "end"]) (fun _ _ _ _ _ _ us hl => match us, hl with | [_, _, _], _ => rfl)
  obtain ⟨f_compared, fd_compared, D_compared⟩ := d_compared.def X G (ps := ["chain", "other"]) (fun _ _ _ _ _ _ us hl => match us, hl with | [_, _], _ => rfl)
  obtain ⟨f_unlike_share, fd_unlike_share, D_unlike_share⟩ := d_unlike_share.def X G (ps := ["chain", "other"]) (fun _ _ _ _ _ _ us hl => match us, hl with | [_, _], _ => rfl)
  obtain ⟨f_is_less, fd_is_less, D_is_less⟩ := d_is_less.def X G (ps := ["one", "other"]) (fun _ _ _ _ _ _ us hl => match us, hl with | [_, _], _ => rfl)
  obtain ⟨f_greater_gap, fd_greater_gap, D_greater_gap⟩ := d_greater_gap.def X G (ps := ["gap", "other"]) (fun _ _ _ _ _ _ us hl => match us, hl with | [_, _], _ => rfl)
  obtain ⟨f_greatest_gap, fd_greatest_gap, D_greatest_gap⟩ := d_greatest_gap.def X G (ps := ["chain", "other"]) (fun _ _ _ _ _ _ us hl => match us, hl with | [_, _], _ => rfl)
  obtain ⟨f_check_number, fd_check_number, D_check_number⟩ := d_check_number.def X G (ps := ["number"]) (fun _ _ _ _ _ _ us hl => match us, hl with | [_], _ => rfl)
  obtain ⟨f_single, fd_single, D_single⟩ := d_single.def X G (ps := ["number"]) (fun _ _ _ _ _ _ us hl => match us, hl with | [_], _ => rfl)
  obtain ⟨f_number_on_line, fd_number_on_line, D_number_on_line⟩ := d_number_on_line.def X G (ps := ["slope", "a", "value"]) (fun _ _ _ _ _ _ us hl => match us, hl with | [_, _, _], _ => rfl)
  obtain ⟨f_line_sources, fd_line_sources, D_line_sources⟩ := d_line_sources.def X G (ps := ["line", "number"]) (fun _ _ _ _ _ _ us hl => match us, hl with | [_, _], _ => rfl)
  obtain ⟨f_pieces_of, fd_pieces_of, D_pieces_of⟩ := d_pieces_of.def X G (ps := ["wave"]) (fun _ _ _ _ _ _ us hl => match us, hl with | [_], _ => rfl)
  obtain ⟨f_turn_between, fd_turn_between, D_turn_between⟩ := d_turn_between.def X G (ps := ["value", "number", "rise"]) (fun _ _ _ _ _ _ us hl => match us, hl with | [_, _, _], _ => rfl)
  obtain ⟨f_source_in, fd_source_in, D_source_in⟩ := d_source_in.def X G (ps := ["piece", "number", "wave"]) (fun _ _ _ _ _ _ us hl => match us, hl with | [_, _, _], _ => rfl)
  obtain ⟨f_merged, fd_merged, D_merged⟩ := d_merged.def X G (ps := ["stretches"]) (fun _ _ _ _ _ _ us hl => match us, hl with | [_], _ => rfl)
  obtain ⟨f_sources, fd_sources, D_sources⟩ := d_sources.def X G (ps := ["chain", "number"]) (fun _ _ _ _ _ _ us hl => match us, hl with | [_, _], _ => rfl)
  obtain ⟨f__law_low, fd__law_low, D__law_low⟩ := d__law_low.def X G (ps := ["_law_top", "_law_bottom"]) (fun _ _ _ _ _ _ us hl => match us, hl with | [_, _], _ => rfl)
  obtain ⟨f_lines_ahead, fd_lines_ahead, D_lines_ahead⟩ := d_lines_ahead.def X G (ps := ["wave"]) (fun _ _ _ _ _ _ us hl => match us, hl with | [_], _ => rfl)
  obtain ⟨f_rises, fd_rises, D_rises⟩ := d_rises.def X G (ps := ["chain"]) (fun _ _ _ _ _ _ us hl => match us, hl with | [_], _ => rfl)
  obtain ⟨f_step_value, fd_step_value, D_step_value⟩ := d_step_value.def X G (ps := ["step", "number"]) (fun _ _ _ _ _ _ us hl => match us, hl with | [_, _], _ => rfl)
  obtain ⟨f_value, fd_value, D_value⟩ := d_value.def X G (ps := ["chain", "number"]) (fun _ _ _ _ _ _ us hl => match us, hl with | [_, _], _ => rfl)
  obtain ⟨f_keeps_values, fd_keeps_values, D_keeps_values⟩ := d_keeps_values.def X G (ps := ["chain", "shape"]) (fun _ _ _ _ _ _ us hl => match us, hl with | [_, _], _ => rfl)
  obtain ⟨f_keeps, fd_keeps, D_keeps⟩ := d_keeps.def X G (ps := ["chain"]) (fun _ _ _ _ _ _ us hl => match us, hl with | [_], _ => rfl)
  refine law_at0 (C := cOf [C0, C1, C2]) X G hfa dL (fun _ _ _ _ _ _ us hl => match us, hl with | [_], _ => rfl) (fun f fd base Df hK hN => ?_) (fun ns h1 h2 => law_true ns h1 h2)
  have o__law_cell := ok__law_cell (P := l.prog) (w := w) (base := base) (T := []) Γ  D__law_cell
  have o__law_rounds := ok__law_rounds (P := l.prog) (w := w) (base := base) (T := []) Γ o__law_cell D__law_rounds
  have o__law_drawn := ok__law_drawn (P := l.prog) (w := w) (base := base) (T := []) Γ  D__law_drawn
  have o__law_roll := ok__law_roll (P := l.prog) (w := w) (base := base) (T := []) Γ o__law_drawn D__law_roll
  have o_is_integer := (ok_is_integer (P := l.prog) (w := w) (base := base) (T := []) Γ  D_is_integer).pure
  have o_is_fraction := (ok_is_fraction (P := l.prog) (w := w) (base := base) (T := []) Γ o_is_integer D_is_fraction).pure
  have o_is_tie := (ok_is_tie (P := l.prog) (w := w) (base := base) (T := []) Γ  D_is_tie).pure
  have o_is_amount_of := (ok_is_amount_of (P := l.prog) (w := w) (base := base) (T := []) Γ  D_is_amount_of).pure
  have o_is_step := (ok_is_step (P := l.prog) (w := w) (base := base) (T := []) Γ o_is_fraction o_is_tie o_is_amount_of D_is_step).pure
  have o_is_chain := (ok_is_chain (P := l.prog) (w := w) (base := base) (T := []) Γ o_is_step D_is_chain).pure
  have o_check_chain := (ok_check_chain (P := l.prog) (w := w) (base := base) (T := []) Γ o_is_chain D_check_chain).pure
  have o_is_line := (ok_is_line (P := l.prog) (w := w) (base := base) (T := []) Γ  D_is_line).pure
  have o_reduced := (ok_reduced (P := l.prog) (w := w) (base := base) (T := []) Γ  D_reduced).pure
  have o_plus := (ok_plus (P := l.prog) (w := w) (base := base) (T := []) Γ o_reduced D_plus).pure
  have o_raised := (ok_raised (P := l.prog) (w := w) (base := base) (T := []) Γ o_is_line o_plus D_raised).pure
  have o_times := (ok_times (P := l.prog) (w := w) (base := base) (T := []) Γ o_reduced D_times).pure
  have o_multiplied := (ok_multiplied (P := l.prog) (w := w) (base := base) (T := []) Γ o_times o_is_line D_multiplied).pure
  have o_size := (ok_size (P := l.prog) (w := w) (base := base) (T := []) Γ  D_size).pure
  have o_inverse := (ok_inverse (P := l.prog) (w := w) (base := base) (T := []) Γ  D_inverse).pure
  have o_span_in_units := (ok_span_in_units (P := l.prog) (w := w) (base := base) (T := []) Γ  D_span_in_units).pure
  have o_as_wave := (ok_as_wave (P := l.prog) (w := w) (base := base) (T := []) Γ o_is_line o_times D_as_wave).pure
  have o_grid_bottom := (ok_grid_bottom (P := l.prog) (w := w) (base := base) (T := []) Γ  D_grid_bottom).pure
  have o_on_grid := (ok_on_grid (P := l.prog) (w := w) (base := base) (T := []) Γ  D_on_grid).pure
  have o_minus := (ok_minus (P := l.prog) (w := w) (base := base) (T := []) Γ o_plus D_minus).pure
  have o_line_ahead := (ok_line_ahead (P := l.prog) (w := w) (base := base) (T := []) Γ o_plus o_minus o_times D_line_ahead).pure
  have o_marks_of := ok_marks_of (P := l.prog) (w := w) (base := base) (T := []) Γ o_on_grid o_line_ahead D_marks_of
  have o_crossings := ok_crossings (P := l.prog) (w := w) (base := base) (T := []) Γ  D_crossings
  have o_tied_count := (ok_tied_count (P := l.prog) (w := w) (base := base) (T := []) Γ  D_tied_count).pure
  have o_nearest_count := (ok_nearest_count (P := l.prog) (w := w) (base := base) (T := []) Γ o_tied_count D_nearest_count).pure
  have o_whole_count := (ok_whole_count (P := l.prog) (w := w) (base := base) (T := []) Γ o_nearest_count D_whole_count).pure
  have o_stepped_value := (ok_stepped_value (P := l.prog) (w := w) (base := base) (T := []) Γ o_whole_count D_stepped_value).pure
  have o_stepped_marks := ok_stepped_marks (P := l.prog) (w := w) (base := base) (T := []) Γ o_stepped_value D_stepped_marks
  have o_repeated := ok_repeated (P := l.prog) (w := w) (base := base) (T := []) Γ  D_repeated
  have o_is_repeated := ok_is_repeated (P := l.prog) (w := w) (base := base) (T := []) Γ  D_is_repeated
  have o_least_many := ok_least_many (P := l.prog) (w := w) (base := base) (T := []) Γ o_is_repeated D_least_many
  have o_from_grid := ok_from_grid (P := l.prog) (w := w) (base := base) (T := []) Γ o_reduced o_least_many D_from_grid
  have o_cut_even := (ok_cut_even (P := l.prog) (w := w) (base := base) (T := []) Γ o_times o_span_in_units o_as_wave o_grid_bottom o_on_grid o_marks_of o_crossings o_stepped_marks o_repeated o_from_grid D_cut_even).pure
  have o_cut := (ok_cut (P := l.prog) (w := w) (base := base) (T := []) Γ o_size o_multiplied o_inverse o_times o_cut_even D_cut).pure
  have o_followed := (ok_followed (P := l.prog) (w := w) (base := base) (T := []) Γ o_raised o_multiplied o_cut D_followed).pure
  have o_form := (ok_form (P := l.prog) (w := w) (base := base) (T := []) Γ o_check_chain o_followed D_form).pure
  have o_forms_of := (ok_forms_of (P := l.prog) (w := w) (base := base) (T := []) Γ o_form D_forms_of).pure
  have o_same := (ok_same (P := l.prog) (w := w) (base := base) (T := []) Γ o_forms_of D_same).pure
  have o_least_multiple := (ok_least_multiple (P := l.prog) (w := w) (base := base) (T := []) Γ o_reduced D_least_multiple).pure
  have o_period_of := (ok_period_of (P := l.prog) (w := w) (base := base) (T := []) Γ o_is_line D_period_of).pure
  have o_common_period := (ok_common_period (P := l.prog) (w := w) (base := base) (T := []) Γ o_least_multiple o_period_of D_common_period).pure
  have o_places_of := (ok_places_of (P := l.prog) (w := w) (base := base) (T := []) Γ o_is_line D_places_of).pure
  have o_count_periods := (ok_count_periods (P := l.prog) (w := w) (base := base) (T := []) Γ o_period_of D_count_periods).pure
  have o_count_places := (ok_count_places (P := l.prog) (w := w) (base := base) (T := []) Γ o_places_of o_count_periods D_count_places).pure
  have o_check_places := (ok_check_places (P := l.prog) (w := w) (base := base) (T := []) Γ o_count_places D_check_places).pure
  have o_growth_of := (ok_growth_of (P := l.prog) (w := w) (base := base) (T := []) Γ o_is_line o_times o_inverse D_growth_of).pure
  have o_starts_of := ok_starts_of (P := l.prog) (w := w) (base := base) (T := []) Γ o_is_line o_line_ahead o_minus o_times o_count_periods o_plus D_starts_of
  have o_ascending := ok_ascending (P := l.prog) (w := w) (base := base) (T := []) Γ  D_ascending
  have o_at_line := (ok_at_line (P := l.prog) (w := w) (base := base) (T := []) Γ o_plus o_times D_at_line).pure
  have o_start_at := ok_start_at (P := l.prog) (w := w) (base := base) (T := []) Γ o_at_line D_start_at
  have o_list_gaps := ok_list_gaps (P := l.prog) (w := w) (base := base) (T := []) Γ o_starts_of o_ascending o_minus o_start_at D_list_gaps
  have o_compared := ok_compared (P := l.prog) (w := w) (base := base) (T := []) Γ o_forms_of o_common_period o_check_places o_growth_of o_list_gaps D_compared
  have o_unlike_share := (ok_unlike_share (P := l.prog) (w := w) (base := base) (T := []) Γ o_compared o_plus o_minus o_times o_inverse D_unlike_share).pure
  have o_is_less := (ok_is_less (P := l.prog) (w := w) (base := base) (T := []) Γ  D_is_less).pure
  have o_greater_gap := (ok_greater_gap (P := l.prog) (w := w) (base := base) (T := []) Γ o_is_less D_greater_gap).pure
  have o_greatest_gap := (ok_greatest_gap (P := l.prog) (w := w) (base := base) (T := []) Γ o_compared o_greater_gap o_size o_at_line D_greatest_gap).pure
  have o_check_number := (ok_check_number (P := l.prog) (w := w) (base := base) (T := []) Γ o_is_fraction D_check_number).pure
  have o_single := (ok_single (P := l.prog) (w := w) (base := base) (T := []) Γ  D_single).pure
  have o_number_on_line := (ok_number_on_line (P := l.prog) (w := w) (base := base) (T := []) Γ o_times o_inverse o_minus D_number_on_line).pure
  have o_line_sources := (ok_line_sources (P := l.prog) (w := w) (base := base) (T := []) Γ o_single o_number_on_line D_line_sources).pure
  have o_pieces_of := ok_pieces_of (P := l.prog) (w := w) (base := base) (T := []) Γ o_line_ahead D_pieces_of
  have o_turn_between := (ok_turn_between (P := l.prog) (w := w) (base := base) (T := []) Γ o_times o_inverse o_minus D_turn_between).pure
  have o_source_in := (ok_source_in (P := l.prog) (w := w) (base := base) (T := []) Γ o_turn_between o_times o_plus o_number_on_line o_is_less o_single D_source_in).pure
  have o_merged := ok_merged (P := l.prog) (w := w) (base := base) (T := []) Γ  D_merged
  have o_sources := (ok_sources (P := l.prog) (w := w) (base := base) (T := []) Γ o_check_chain o_check_number o_form o_is_line o_line_sources o_pieces_of o_source_in o_merged D_sources).pure
  have o__law_low := (ok__law_low (P := l.prog) (w := w) (base := base) (T := []) Γ  D__law_low).pure
  have o_lines_ahead := ok_lines_ahead (P := l.prog) (w := w) (base := base) (T := []) Γ o_line_ahead D_lines_ahead
  have o_rises := (ok_rises (P := l.prog) (w := w) (base := base) (T := []) Γ o_form o_is_less o_is_line o_lines_ahead o_at_line D_rises).pure
  have o_step_value := (ok_step_value (P := l.prog) (w := w) (base := base) (T := []) Γ o_plus o_times o_whole_count o_minus D_step_value).pure
  have o_value := (ok_value (P := l.prog) (w := w) (base := base) (T := []) Γ o_check_chain o_check_number o_step_value D_value).pure
  have o_keeps_values := (ok_keeps_values (P := l.prog) (w := w) (base := base) (T := []) Γ o_is_line o_value D_keeps_values).pure
  have o_keeps := (ok_keeps (P := l.prog) (w := w) (base := base) (T := []) Γ o_form o_keeps_values o_followed D_keeps).pure
  exact ok_law Γ o__law_rounds o__law_roll o_same o_unlike_share o_greatest_gap o_sources o__law_low o_form o_rises o_keeps Df
end Lw
open PySem PySem.W PyProof.Rows
set_option maxRecDepth 100000 in
set_option maxHeartbeats 0 in
theorem PySem.Challenge.cw_roundwaves_k10_whole_double_roundings_holds : PySem.Challenge.rw_roundwaves_k10_whole_double_roundings.Holds := by
  w_on; o_law; k_head; (case hw => w_witness2)
  k_fill
  refine Dt.walk_mine (l := PySem.Challenge.rw_roundwaves_k10_whole_double_roundings) (n := 63) (k := 13) (x := "_law_script") (CX := fun w => L2N.CX PySem.Challenge.rw_roundwaves_k10_whole_double_roundings.prog w) rfl (by decide) rfl ⟨rfl, by decide, by decide⟩ (fun w h Y => PySem.W.kIn_of Y) ?F (fun w H s e s' z => by obtain ⟨_, _, _, _, _, _, _, _, _, _, _, _, q⟩ := z; exact q)
  case F =>
    intro w mg fa h Y Xp KX G hmg
    refine' Lw.all_mk KX G hmg ?dL ?E0 ?E1 ?E2 ?z_abs ?z_all ?z_bool ?z_enumerate ?z_int ?z_isinstance ?z_len ?z_list ?z_max ?z_min ?z_range ?z_sorted ?z_str ?z_tuple ?z_zip ?t_ALL_NUMBERS ?t_BY_MULTIPLES ?i_LARGEST_IN_NUMBER ?i_LARGEST_IN_STEP ?i_MOST_PLACES ?i_MOST_STEPS ?t_NOTHING ?t_NO_STEPS ?t_ONE ?t_TIES ?m_gcd ?m_lcm ?d__law_cell ?d__law_rounds ?d__law_drawn ?d__law_roll ?d_is_integer ?d_is_fraction ?d_is_tie ?d_is_amount_of ?d_is_step ?d_is_chain ?d_check_chain ?d_is_line ?d_reduced ?d_plus ?d_raised ?d_times ?d_multiplied ?d_size ?d_inverse ?d_span_in_units ?d_as_wave ?d_grid_bottom ?d_on_grid ?d_minus ?d_line_ahead ?d_marks_of ?d_crossings ?d_tied_count ?d_nearest_count ?d_whole_count ?d_stepped_value ?d_stepped_marks ?d_repeated ?d_is_repeated ?d_least_many ?d_from_grid ?d_cut_even ?d_cut ?d_followed ?d_form ?d_forms_of ?d_same ?d_least_multiple ?d_period_of ?d_common_period ?d_places_of ?d_count_periods ?d_count_places ?d_check_places ?d_growth_of ?d_starts_of ?d_ascending ?d_at_line ?d_start_at ?d_list_gaps ?d_compared ?d_unlike_share ?d_is_less ?d_greater_gap ?d_greatest_gap ?d_check_number ?d_single ?d_number_on_line ?d_line_sources ?d_pieces_of ?d_turn_between ?d_source_in ?d_merged ?d_sources ?d__law_low ?d_lines_ahead ?d_rises ?d_step_value ?d_value ?d_keeps_values ?d_keeps
    (case dL => refine' Dt.DefIs.mk' ?a ?l ?c ?k; (case a => k_is); (case l => k_is); (case c => k_is); (case k => k_is))
    (case E0 => refine' Dt.ExIs.mk ?a ?ex ?kp ?sb ?ty; (case a => k_is); (case ex => k_exc); (case kp => k_is); (case sb => k_is); (case ty => k_is))
    (case E1 => refine' Dt.ExIs.mk ?a ?ex ?kp ?sb ?ty; (case a => k_is); (case ex => k_exc); (case kp => k_is); (case sb => k_is); (case ty => k_is))
    (case E2 => refine' Dt.ExIs.mk ?a ?ex ?kp ?sb ?ty; (case a => k_is); (case ex => k_exc); (case kp => k_is); (case sb => k_is); (case ty => k_is))
    (case z_abs => k_is)
    (case z_all => k_is)
    (case z_bool => k_is)
    (case z_enumerate => k_is)
    (case z_int => k_is)
    (case z_isinstance => k_is)
    (case z_len => k_is)
    (case z_list => k_is)
    (case z_max => k_is)
    (case z_min => k_is)
    (case z_range => k_is)
    (case z_sorted => k_is)
    (case z_str => k_is)
    (case z_tuple => k_is)
    (case z_zip => k_is)
    (case t_ALL_NUMBERS => refine' Dt.FlatIs.mk' ?h1 ?h2 ?h3 (by decide); (case h1 => k_is); (case h2 => k_is); (case h3 => exact .cons rfl (.cons rfl (.cons rfl (.cons rfl (.nil))))))
    (case t_BY_MULTIPLES => refine' Dt.StrsIs.mk' ?h1 ?h2 ?h3 (by decide); (case h1 => k_is); (case h2 => k_is); (case h3 => exact .cons ⟨_, rfl⟩ (.cons ⟨_, rfl⟩ (.cons ⟨_, rfl⟩ (.nil)))))
    (case i_LARGEST_IN_NUMBER => exact Dt.kint_loose Xp (by simp))
    (case i_LARGEST_IN_STEP => k_is)
    (case i_MOST_PLACES => k_is)
    (case i_MOST_STEPS => k_is)
    (case t_NOTHING => refine' Dt.FlatIs.mk' ?h1 ?h2 ?h3 (by decide); (case h1 => k_is); (case h2 => k_is); (case h3 => exact .cons ⟨_, rfl⟩ (.cons ⟨_, rfl⟩ (.nil))))
    (case t_NO_STEPS => refine' Dt.Nest2Is.mk' ?h1 ?h2 ?l1 ?l2 ?v1 ?v2 (by decide) (by decide); (case h1 => k_is); (case h2 => k_is); (case l1 => k_is); (case l2 => k_is); (case v1 => exact .cons ⟨_, rfl⟩ (.cons ⟨_, rfl⟩ (.nil))); (case v2 => exact .cons ⟨_, rfl⟩ (.cons ⟨_, rfl⟩ (.nil))))
    (case t_ONE => refine' Dt.FlatIs.mk' ?h1 ?h2 ?h3 (by decide); (case h1 => k_is); (case h2 => k_is); (case h3 => exact .cons ⟨_, rfl⟩ (.cons ⟨_, rfl⟩ (.nil))))
    (case t_TIES => refine' Dt.StrsIs.mk' ?h1 ?h2 ?h3 (by decide); (case h1 => k_is); (case h2 => k_is); (case h3 => exact .cons ⟨_, rfl⟩ (.cons ⟨_, rfl⟩ (.cons ⟨_, rfl⟩ (.cons ⟨_, rfl⟩ (.nil))))))
    (case m_gcd => k_is)
    (case m_lcm => k_is)
    (case d__law_cell => refine' Dt.DefIs.mk' ?a ?l ?c ?k; (case a => k_is); (case l => k_is); (case c => k_is); (case k => k_is))
    (case d__law_rounds => refine' Dt.DefIs.mk' ?a ?l ?c ?k; (case a => k_is); (case l => k_is); (case c => k_is); (case k => k_is))
    (case d__law_drawn => refine' Dt.DefIs.mk' ?a ?l ?c ?k; (case a => k_is); (case l => k_is); (case c => k_is); (case k => k_is))
    (case d__law_roll => refine' Dt.DefIs.mk' ?a ?l ?c ?k; (case a => k_is); (case l => k_is); (case c => k_is); (case k => k_is))
    (case d_is_integer => refine' Dt.DefIs.mk' ?a ?l ?c ?k; (case a => k_is); (case l => k_is); (case c => k_is); (case k => k_is))
    (case d_is_fraction => refine' Dt.DefIs.mk' ?a ?l ?c ?k; (case a => k_is); (case l => k_is); (case c => k_is); (case k => k_is))
    (case d_is_tie => refine' Dt.DefIs.mk' ?a ?l ?c ?k; (case a => k_is); (case l => k_is); (case c => k_is); (case k => k_is))
    (case d_is_amount_of => refine' Dt.DefIs.mk' ?a ?l ?c ?k; (case a => k_is); (case l => k_is); (case c => k_is); (case k => k_is))
    (case d_is_step => refine' Dt.DefIs.mk' ?a ?l ?c ?k; (case a => k_is); (case l => k_is); (case c => k_is); (case k => k_is))
    (case d_is_chain => refine' Dt.DefIs.mk' ?a ?l ?c ?k; (case a => k_is); (case l => k_is); (case c => k_is); (case k => k_is))
    (case d_check_chain => refine' Dt.DefIs.mk' ?a ?l ?c ?k; (case a => k_is); (case l => k_is); (case c => k_is); (case k => k_is))
    (case d_is_line => refine' Dt.DefIs.mk' ?a ?l ?c ?k; (case a => k_is); (case l => k_is); (case c => k_is); (case k => k_is))
    (case d_reduced => refine' Dt.DefIs.mk' ?a ?l ?c ?k; (case a => k_is); (case l => k_is); (case c => k_is); (case k => k_is))
    (case d_plus => refine' Dt.DefIs.mk' ?a ?l ?c ?k; (case a => k_is); (case l => k_is); (case c => k_is); (case k => k_is))
    (case d_raised => refine' Dt.DefIs.mk' ?a ?l ?c ?k; (case a => k_is); (case l => k_is); (case c => k_is); (case k => k_is))
    (case d_times => refine' Dt.DefIs.mk' ?a ?l ?c ?k; (case a => k_is); (case l => k_is); (case c => k_is); (case k => k_is))
    (case d_multiplied => refine' Dt.DefIs.mk' ?a ?l ?c ?k; (case a => k_is); (case l => k_is); (case c => k_is); (case k => k_is))
    (case d_size => refine' Dt.DefIs.mk' ?a ?l ?c ?k; (case a => k_is); (case l => k_is); (case c => k_is); (case k => k_is))
    (case d_inverse => refine' Dt.DefIs.mk' ?a ?l ?c ?k; (case a => k_is); (case l => k_is); (case c => k_is); (case k => k_is))
    (case d_span_in_units => refine' Dt.DefIs.mk' ?a ?l ?c ?k; (case a => k_is); (case l => k_is); (case c => k_is); (case k => k_is))
    (case d_as_wave => refine' Dt.DefIs.mk' ?a ?l ?c ?k; (case a => k_is); (case l => k_is); (case c => k_is); (case k => k_is))
    (case d_grid_bottom => refine' Dt.DefIs.mk' ?a ?l ?c ?k; (case a => k_is); (case l => k_is); (case c => k_is); (case k => k_is))
    (case d_on_grid => refine' Dt.DefIs.mk' ?a ?l ?c ?k; (case a => k_is); (case l => k_is); (case c => k_is); (case k => k_is))
    (case d_minus => refine' Dt.DefIs.mk' ?a ?l ?c ?k; (case a => k_is); (case l => k_is); (case c => k_is); (case k => k_is))
    (case d_line_ahead => refine' Dt.DefIs.mk' ?a ?l ?c ?k; (case a => k_is); (case l => k_is); (case c => k_is); (case k => k_is))
    (case d_marks_of => refine' Dt.DefIs.mk' ?a ?l ?c ?k; (case a => k_is); (case l => k_is); (case c => k_is); (case k => k_is))
    (case d_crossings => refine' Dt.DefIs.mk' ?a ?l ?c ?k; (case a => k_is); (case l => k_is); (case c => k_is); (case k => k_is))
    (case d_tied_count => refine' Dt.DefIs.mk' ?a ?l ?c ?k; (case a => k_is); (case l => k_is); (case c => k_is); (case k => k_is))
    (case d_nearest_count => refine' Dt.DefIs.mk' ?a ?l ?c ?k; (case a => k_is); (case l => k_is); (case c => k_is); (case k => k_is))
    (case d_whole_count => refine' Dt.DefIs.mk' ?a ?l ?c ?k; (case a => k_is); (case l => k_is); (case c => k_is); (case k => k_is))
    (case d_stepped_value => refine' Dt.DefIs.mk' ?a ?l ?c ?k; (case a => k_is); (case l => k_is); (case c => k_is); (case k => k_is))
    (case d_stepped_marks => refine' Dt.DefIs.mk' ?a ?l ?c ?k; (case a => k_is); (case l => k_is); (case c => k_is); (case k => k_is))
    (case d_repeated => refine' Dt.DefIs.mk' ?a ?l ?c ?k; (case a => k_is); (case l => k_is); (case c => k_is); (case k => k_is))
    (case d_is_repeated => refine' Dt.DefIs.mk' ?a ?l ?c ?k; (case a => k_is); (case l => k_is); (case c => k_is); (case k => k_is))
    (case d_least_many => refine' Dt.DefIs.mk' ?a ?l ?c ?k; (case a => k_is); (case l => k_is); (case c => k_is); (case k => k_is))
    (case d_from_grid => refine' Dt.DefIs.mk' ?a ?l ?c ?k; (case a => k_is); (case l => k_is); (case c => k_is); (case k => k_is))
    (case d_cut_even => refine' Dt.DefIs.mk' ?a ?l ?c ?k; (case a => k_is); (case l => k_is); (case c => k_is); (case k => k_is))
    (case d_cut => refine' Dt.DefIs.mk' ?a ?l ?c ?k; (case a => k_is); (case l => k_is); (case c => k_is); (case k => k_is))
    (case d_followed => refine' Dt.DefIs.mk' ?a ?l ?c ?k; (case a => k_is); (case l => k_is); (case c => k_is); (case k => k_is))
    (case d_form => refine' Dt.DefIs.mk' ?a ?l ?c ?k; (case a => k_is); (case l => k_is); (case c => k_is); (case k => k_is))
    (case d_forms_of => refine' Dt.DefIs.mk' ?a ?l ?c ?k; (case a => k_is); (case l => k_is); (case c => k_is); (case k => k_is))
    (case d_same => refine' Dt.DefIs.mk' ?a ?l ?c ?k; (case a => k_is); (case l => k_is); (case c => k_is); (case k => k_is))
    (case d_least_multiple => refine' Dt.DefIs.mk' ?a ?l ?c ?k; (case a => k_is); (case l => k_is); (case c => k_is); (case k => k_is))
    (case d_period_of => refine' Dt.DefIs.mk' ?a ?l ?c ?k; (case a => k_is); (case l => k_is); (case c => k_is); (case k => k_is))
    (case d_common_period => refine' Dt.DefIs.mk' ?a ?l ?c ?k; (case a => k_is); (case l => k_is); (case c => k_is); (case k => k_is))
    (case d_places_of => refine' Dt.DefIs.mk' ?a ?l ?c ?k; (case a => k_is); (case l => k_is); (case c => k_is); (case k => k_is))
    (case d_count_periods => refine' Dt.DefIs.mk' ?a ?l ?c ?k; (case a => k_is); (case l => k_is); (case c => k_is); (case k => k_is))
    (case d_count_places => refine' Dt.DefIs.mk' ?a ?l ?c ?k; (case a => k_is); (case l => k_is); (case c => k_is); (case k => k_is))
    (case d_check_places => refine' Dt.DefIs.mk' ?a ?l ?c ?k; (case a => k_is); (case l => k_is); (case c => k_is); (case k => k_is))
    (case d_growth_of => refine' Dt.DefIs.mk' ?a ?l ?c ?k; (case a => k_is); (case l => k_is); (case c => k_is); (case k => k_is))
    (case d_starts_of => refine' Dt.DefIs.mk' ?a ?l ?c ?k; (case a => k_is); (case l => k_is); (case c => k_is); (case k => k_is))
    (case d_ascending => refine' Dt.DefIs.mk' ?a ?l ?c ?k; (case a => k_is); (case l => k_is); (case c => k_is); (case k => k_is))
    (case d_at_line => refine' Dt.DefIs.mk' ?a ?l ?c ?k; (case a => k_is); (case l => k_is); (case c => k_is); (case k => k_is))
    (case d_start_at => refine' Dt.DefIs.mk' ?a ?l ?c ?k; (case a => k_is); (case l => k_is); (case c => k_is); (case k => k_is))
    (case d_list_gaps => refine' Dt.DefIs.mk' ?a ?l ?c ?k; (case a => k_is); (case l => k_is); (case c => k_is); (case k => k_is))
    (case d_compared => refine' Dt.DefIs.mk' ?a ?l ?c ?k; (case a => k_is); (case l => k_is); (case c => k_is); (case k => k_is))
    (case d_unlike_share => refine' Dt.DefIs.mk' ?a ?l ?c ?k; (case a => k_is); (case l => k_is); (case c => k_is); (case k => k_is))
    (case d_is_less => refine' Dt.DefIs.mk' ?a ?l ?c ?k; (case a => k_is); (case l => k_is); (case c => k_is); (case k => k_is))
    (case d_greater_gap => refine' Dt.DefIs.mk' ?a ?l ?c ?k; (case a => k_is); (case l => k_is); (case c => k_is); (case k => k_is))
    (case d_greatest_gap => refine' Dt.DefIs.mk' ?a ?l ?c ?k; (case a => k_is); (case l => k_is); (case c => k_is); (case k => k_is))
    (case d_check_number => refine' Dt.DefIs.mk' ?a ?l ?c ?k; (case a => k_is); (case l => k_is); (case c => k_is); (case k => k_is))
    (case d_single => refine' Dt.DefIs.mk' ?a ?l ?c ?k; (case a => k_is); (case l => k_is); (case c => k_is); (case k => k_is))
    (case d_number_on_line => refine' Dt.DefIs.mk' ?a ?l ?c ?k; (case a => k_is); (case l => k_is); (case c => k_is); (case k => k_is))
    (case d_line_sources => refine' Dt.DefIs.mk' ?a ?l ?c ?k; (case a => k_is); (case l => k_is); (case c => k_is); (case k => k_is))
    (case d_pieces_of => refine' Dt.DefIs.mk' ?a ?l ?c ?k; (case a => k_is); (case l => k_is); (case c => k_is); (case k => k_is))
    (case d_turn_between => refine' Dt.DefIs.mk' ?a ?l ?c ?k; (case a => k_is); (case l => k_is); (case c => k_is); (case k => k_is))
    (case d_source_in => refine' Dt.DefIs.mk' ?a ?l ?c ?k; (case a => k_is); (case l => k_is); (case c => k_is); (case k => k_is))
    (case d_merged => refine' Dt.DefIs.mk' ?a ?l ?c ?k; (case a => k_is); (case l => k_is); (case c => k_is); (case k => k_is))
    (case d_sources => refine' Dt.DefIs.mk' ?a ?l ?c ?k; (case a => k_is); (case l => k_is); (case c => k_is); (case k => k_is))
    (case d__law_low => refine' Dt.DefIs.mk' ?a ?l ?c ?k; (case a => k_is); (case l => k_is); (case c => k_is); (case k => k_is))
    (case d_lines_ahead => refine' Dt.DefIs.mk' ?a ?l ?c ?k; (case a => k_is); (case l => k_is); (case c => k_is); (case k => k_is))
    (case d_rises => refine' Dt.DefIs.mk' ?a ?l ?c ?k; (case a => k_is); (case l => k_is); (case c => k_is); (case k => k_is))
    (case d_step_value => refine' Dt.DefIs.mk' ?a ?l ?c ?k; (case a => k_is); (case l => k_is); (case c => k_is); (case k => k_is))
    (case d_value => refine' Dt.DefIs.mk' ?a ?l ?c ?k; (case a => k_is); (case l => k_is); (case c => k_is); (case k => k_is))
    (case d_keeps_values => refine' Dt.DefIs.mk' ?a ?l ?c ?k; (case a => k_is); (case l => k_is); (case c => k_is); (case k => k_is))
    (case d_keeps => refine' Dt.DefIs.mk' ?a ?l ?c ?k; (case a => k_is); (case l => k_is); (case c => k_is); (case k => k_is))
#print axioms PySem.Challenge.cw_roundwaves_k10_whole_double_roundings_holds

