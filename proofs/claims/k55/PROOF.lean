import PyProof.Rows.All
import Wide.All
import OpenK.AllK
import Wide.FinOn
import PySem.Challenge.RW_coupledyard_k55_whole_texts_of_yards
import HandS.ForMost
import HandS.Exc
import HandS.TryOnly
import HandS.ExcOwn
import HandS.WordsExc
import HandS.Lambda
import HandS.Style
import HandS.Steps
import HandS.TupAny
import HandS.TupMul
import HandS.TupLe
import HandS.Deep
import HandS.Sort
import HandS.SortInts
import PyProof.ReprRoads
import HandS.IsInst
import KE.SortData
import KE.DataMinMax
import HandS.Star
import HandS.NoneIn
import KE.GoesEnum
import HandS.Zip
import HandS.Words
import HandS.Conv
import HandS.Ends
import KE.KTryMore
import HandS.ExcValue
import HandS.ExcInit
import KE.KExcIs
import HandS.ExcIs
import HandS.ExcField
import HandS.EndTab
import KE.KNest
import KE.KNestM
import HandS.Iter
import HandS.Dict
import KE.KExcInit
import KE.DataEq
import HandS.More
import HandS.SetFor
import PyProof.Rows.CountFlat
import HandS.TupSets
import HandS.Wide
import HandS.SortKw
import HandS.Defaults
import HandS.Text
import HandS.StrMore
import HandS.FStr
import KE.KUnpackStar
import KE.GoesEnumKw
section
set_option Elab.async false
set_option linter.all false
set_option maxRecDepth 100000
set_option maxHeartbeats 2001000
/-! Data, the store of living objects, and how they lie in the heap. -/
namespace Mir
open PySem L2

/-- a datum: what never changes is told by its value, a living object by its label -/
inductive D where
  | non | bl (b : Bool) | int (i : Int) | str (s : Str)
  | tup (xs : List D) | lst (xs : List D) | frz (xs : List D) | ref (l : Nat)
  | dct (ks : List Key) (ds : List D) | dctT (ks : List (List Key)) (ds : List D)
/-- a living object -/
inductive O where
  | lst (xs : List D)
  | dk (kvs : List (Key × D))
  | dt (kvs : List (List Key × D))
  | orc (P : List (Key × D) → Prop)
  | exc (C : Addr) (fs : List (Str × D))
  | tabs (T : List (Addr × Str))
abbrev Store := Nat → Option O
def put (S : Store) (l : Nat) (o : O) : Store := fun k => if k = l then some o else S k
def del (S : Store) (l : Nat) : Store := fun k => if k = l then none else S k
theorem put_same {S : Store} {l : Nat} {o : O} : put S l o l = some o := if_pos rfl
theorem put_ne {S : Store} {l k : Nat} {o : O} (h : k ≠ l) : put S l o k = S k := if_neg h
theorem del_same {S : Store} {l : Nat} : del S l l = none := if_pos rfl
theorem del_ne {S : Store} {l k : Nat} (h : k ≠ l) : del S l k = S k := if_neg h
/-- the one lies in the other -/
def Sub (S T : Store) : Prop := ∀ l o, S l = some o → T l = some o
theorem Sub.refl (S : Store) : Sub S S := fun _ _ h => h
theorem Sub.trans {S T U : Store} (a : Sub S T) (b : Sub T U) : Sub S U := fun l o h => b l o (a l o h)
theorem Sub.put {S T : Store} {l : Nat} {o : O} (h : Sub S T) (n : S l = none) : Sub S (put T l o) := fun k u e => by
  have hk : k ≠ l := fun z => by rw [z, n] at e; cases e
  rw [put_ne hk]; exact h k u e
theorem Sub.del (S : Store) (l : Nat) : Sub (del S l) S := fun k u e => by
  by_cases hk : k = l
  · rw [hk, del_same] at e; cases e
  · rw [del_ne hk] at e; exact e

/-- a world: where the labels lie, how many there are, the store, the abstract heap -/
structure Wd where
  μ : Nat → Addr
  n : Nat
  S : Store
  H : Hp
  kl : Addr → List V → Prop
  T : List (Addr × Str)
def Live (W : Wd) (a : Addr) : Prop := ∃ l o, W.S l = some o ∧ W.μ l = a

/-- a list that never changes: locked, or one of the written part -/
def FzL (W : Wd) (a : Addr) (vs : List V) : Prop := (∃ o, W.H a = some (.frz o (.lst vs)) ∧ ¬ Live W a) ∨ W.kl a vs
mutual
inductive RD (W : Wd) : V → D → Prop
  | non : RD W .non .non
  | bl (b : Bool) : RD W (.bl b) (.bl b)
  | int (i : Int) : RD W (.int i) (.int i)
  | str (s : Str) : RD W (.str s) (.str s)
  | tup {a : Addr} {vs : List V} {ds : List D} : W.H a = some (.tup vs) → ¬ Live W a → RDs W vs ds → RD W (.ref a) (.tup ds)
  | lst {a : Addr} {vs : List V} {ds : List D} : W.H a = some (.lst vs) → ¬ Live W a → RDs W vs ds → RD W (.ref a) (.lst ds)
  | frz {a : Addr} {vs : List V} {ds : List D} : FzL W a vs → RDs W vs ds → RD W (.ref a) (.frz ds)
  | ref (l : Nat) : l < W.n → RD W (.ref (W.μ l)) (.ref l)
  | dct {a : Addr} {o : Obj} {ks : List Key} {vs : List V} {ds : List D} : W.H a = some (.frz o (.dK (ks.zip vs))) → ¬ Live W a → ks.length = vs.length → RDs W vs ds → RD W (.ref a) (.dct ks ds)
  | dctT {a : Addr} {o : Obj} {ks : List (List Key)} {vs : List V} {ds : List D} : W.H a = some (.frz o (.dT (ks.zip vs))) → ¬ Live W a → ks.length = vs.length → RDs W vs ds → RD W (.ref a) (.dctT ks ds)
inductive RDs (W : Wd) : List V → List D → Prop
  | nil : RDs W [] []
  | cons {v : V} {vs : List V} {d : D} {ds : List D} : RD W v d → RDs W vs ds → RDs W (v :: vs) (d :: ds)
end

/-- W' comes behind W -/
structure Le (W W' : Wd) : Prop where
  n : W.n ≤ W'.n
  μ : ∀ l, l < W.n → W'.μ l = W.μ l
  k : ∀ a o, W.H a = some o → ¬ Live W a → (nt : ∀ ps, o ≠ .tbl ps := by nofun) → W'.H a = some o ∧ ¬ Live W' a
  kl : W'.kl = W.kl
  T : W'.T = W.T
theorem Le.refl (W : Wd) : Le W W := ⟨Nat.le_refl _, fun _ _ => rfl, fun _ _ h n _ => ⟨h, n⟩, rfl, rfl⟩
theorem Le.trans {A B C : Wd} (a : Le A B) (b : Le B C) : Le A C :=
  ⟨Nat.le_trans a.n b.n, fun l h => (b.μ l (Nat.lt_of_lt_of_le h a.n)).trans (a.μ l h), fun x o h n t => let ⟨h1, n1⟩ := a.k x o h n t; b.k x o h1 n1 t, b.kl.trans a.kl, b.T.trans a.T⟩
theorem FzL.mono {W W' : Wd} (e : Le W W') {a : Addr} {vs : List V} (h : FzL W a vs) : FzL W' a vs := h.elim (fun ⟨o, h1, n⟩ => .inl ⟨o, e.k _ _ h1 n⟩) fun h => .inr (by rw [e.kl]; exact h)
mutual
theorem RD.mono {W W' : Wd} (e : Le W W') : ∀ {d : D} {v : V}, RD W v d → RD W' v d
  | .non, _, .non => .non
  | .bl _, _, .bl b => .bl b
  | .int _, _, .int i => .int i
  | .str _, _, .str s => .str s
  | .tup _, _, .tup h n r => .tup (e.k _ _ h n).1 (e.k _ _ h n).2 (RDs.mono e r)
  | .lst _, _, .lst h n r => .lst (e.k _ _ h n).1 (e.k _ _ h n).2 (RDs.mono e r)
  | .frz _, _, .frz h r => .frz (h.mono e) (RDs.mono e r)
  | .dct _ _, _, .dct h n l r => .dct (e.k _ _ h n).1 (e.k _ _ h n).2 l (RDs.mono e r)
  | .dctT _ _, _, .dctT h n l r => .dctT (e.k _ _ h n).1 (e.k _ _ h n).2 l (RDs.mono e r)
  | .ref _, _, .ref l h => by
    rw [← e.μ l h]
    exact .ref l (Nat.lt_of_lt_of_le h e.n)
theorem RDs.mono {W W' : Wd} (e : Le W W') : ∀ {ds : List D} {vs : List V}, RDs W vs ds → RDs W' vs ds
  | [], _, .nil => .nil
  | _ :: _, _, .cons a r => .cons (RD.mono e a) (RDs.mono e r)
end
theorem RDs.length {W : Wd} : ∀ {vs : List V} {ds : List D}, RDs W vs ds → vs.length = ds.length
  | _, _, .nil => rfl
  | _, _, .cons _ r => congrArg (· + 1) r.length
theorem RDs.get {W : Wd} : ∀ {vs : List V} {ds : List D} {i : Nat} {d : D}, RDs W vs ds → ds[i]? = some d → ∃ v, vs[i]? = some v ∧ RD W v d
  | _, _, _, _, .nil, h => by simp at h
  | _, _, 0, _, .cons a _, h => by simp at h; subst h; exact ⟨_, rfl, a⟩
  | _, _, i + 1, _, .cons _ r, h => by
    obtain ⟨v, h1, h2⟩ := r.get (i := i) (by simpa using h)
    exact ⟨v, by simpa using h1, h2⟩
theorem RDs.get' {W : Wd} : ∀ {vs : List V} {ds : List D} {i : Nat} {v : V}, RDs W vs ds → vs[i]? = some v → ∃ d, ds[i]? = some d ∧ RD W v d
  | _, _, _, _, .nil, h => by simp at h
  | _, _, 0, _, .cons a _, h => by simp at h; subst h; exact ⟨_, rfl, a⟩
  | _, _, i + 1, _, .cons _ r, h => by
    obtain ⟨v, h1, h2⟩ := r.get' (i := i) (by simpa using h)
    exact ⟨v, by simpa using h1, h2⟩
theorem RDs.app {W : Wd} : ∀ {vs us : List V} {ds es : List D}, RDs W vs ds → RDs W us es → RDs W (vs ++ us) (ds ++ es)
  | _, _, _, _, .nil, s => s
  | _, _, _, _, .cons a r, s => .cons a (r.app s)
theorem RDs.take {W : Wd} : ∀ {vs : List V} {ds : List D} (k : Nat), RDs W vs ds → RDs W (vs.take k) (ds.take k)
  | _, _, 0, _ => by rw [List.take_zero, List.take_zero]; exact .nil
  | _, _, _ + 1, .nil => .nil
  | _, _, k + 1, .cons a r => .cons a (r.take k)
theorem RDs.drop {W : Wd} : ∀ {vs : List V} {ds : List D} (k : Nat), RDs W vs ds → RDs W (vs.drop k) (ds.drop k)
  | _, _, 0, r => r
  | _, _, _ + 1, .nil => .nil
  | _, _, k + 1, .cons _ r => r.drop k
theorem RDs.set {W : Wd} {v : V} {d : D} (q : RD W v d) : ∀ {vs : List V} {ds : List D} (k : Nat), RDs W vs ds → RDs W (vs.set k v) (ds.set k d)
  | _, _, _, .nil => .nil
  | _, _, 0, .cons _ r => .cons q r
  | _, _, k + 1, .cons a r => .cons a (r.set q k)
theorem RDs.erase {W : Wd} : ∀ {vs : List V} {ds : List D} (k : Nat), RDs W vs ds → RDs W (vs.eraseIdx k) (ds.eraseIdx k)
  | _, _, _, .nil => .nil
  | _, _, 0, .cons _ r => r
  | _, _, k + 1, .cons a r => .cons a (r.erase k)
theorem RDs.rev {W : Wd} : ∀ {vs : List V} {ds : List D}, RDs W vs ds → RDs W vs.reverse ds.reverse
  | _, _, .nil => .nil
  | _, _, .cons a r => by
    rw [List.reverse_cons,
        List.reverse_cons]
    exact r.rev.app (.cons a .nil)
theorem RDs.last {W : Wd} : ∀ {vs : List V} {ds : List D}, RDs W vs ds → RDs W vs.dropLast ds.dropLast
  | _, _, .nil => .nil
  | _, _, .cons _ .nil => .nil
  | _, _, .cons a (.cons b r) => .cons a (RDs.last (.cons b r))
theorem RDs.ints {W : Wd} : ∀ (ns : List Int), RDs W (ns.map V.int) (ns.map D.int)
  | [] => .nil
  | n :: ns => .cons (.int n) (RDs.ints ns)
theorem RDs.of_ints {W : Wd} : ∀ {ns : List Int} {vs : List V}, RDs W vs (ns.map D.int) → vs = ns.map V.int
  | [], _, .nil => rfl
  | n :: ns, _, .cons a r => by
    cases a
    rw [List.map_cons, RDs.of_ints r]

/-- pairs, keyed -/
def RK (W : Wd) {κ : Type} : List (κ × V) → List (κ × D) → Prop := Paired fun p q => p.1 = q.1 ∧ RD W p.2 q.2
theorem RK.mono {W W' : Wd} {κ : Type} (e : Le W W') {a : List (κ × V)} {b : List (κ × D)} (h : RK W a b) : RK W' a b := Paired.mapP h fun _ _ z => ⟨z.1, z.2.mono e⟩

/-- how an exception lies: its record at a, its own dict at dd -/
def ExcAt (C dd : Addr) (a : Addr) : HO := .ext fun h => ∃ (oe : Obj) (vs : Array Value), h.get? a = some oe ∧ Zc (.ref C) (some dd) oe ∧ oe.data = .fields vs
def RO (W : Wd) (a : Addr) : O → Prop
  | .lst xs => ∃ vs, W.H a = some (.lst vs) ∧ RDs W vs xs
  | .dk kvs => ∃ ks, W.H a = some (.dK ks) ∧ RK W ks kvs
  | .dt kvs => ∃ ks, W.H a = some (.dT ks) ∧ RK W ks kvs
  | .orc P => ∃ ks kvs, W.H a = some (.dK ks) ∧ RK W ks kvs ∧ P kvs
  | .tabs T => W.T = T ∧ (∃ p ∈ T, a = p.1) ∧ ∃ u, W.H a = some u
  | .exc C fs => ∃ dd fv, W.H a = some (ExcAt C dd a) ∧ W.H dd = some (.xd fv) ∧ ¬ Live W dd ∧ RK W fv fs
theorem RO.there {W : Wd} {a : Addr} {o : O} (h : RO W a o) : ∃ u, W.H a = some u := by
  cases o with
  | lst xs => obtain ⟨_, h, _⟩ := h; exact ⟨_, h⟩
  | dk xs => obtain ⟨_, h, _⟩ := h; exact ⟨_, h⟩
  | dt xs => obtain ⟨_, h, _⟩ := h; exact ⟨_, h⟩
  | orc xs => obtain ⟨_, _, h, _⟩ := h; exact ⟨_, h⟩
  | exc C xs => obtain ⟨_, _, h, _⟩ := h; exact ⟨_, h⟩
  | tabs T => exact h.2.2
theorem RO.keep {W W' : Wd} (e : Le W W') {a : Addr} {o : O} (q : ∀ u, W.H a = some u → W'.H a = some u) (h : RO W a o) : RO W' a o := by
  cases o with
  | lst xs => obtain ⟨_, h, r⟩ := h; exact ⟨_, q _ h, r.mono e⟩
  | dk xs => obtain ⟨_, h, r⟩ := h; exact ⟨_, q _ h, r.mono e⟩
  | dt xs => obtain ⟨_, h, r⟩ := h; exact ⟨_, q _ h, r.mono e⟩
  | orc xs => obtain ⟨_, _, h, r, p⟩ := h; exact ⟨_, _, q _ h, r.mono e, p⟩
  | exc C xs => obtain ⟨_, _, h, h2, n, r⟩ := h; exact ⟨_, _, q _ h, (e.k _ _ h2 n).1, (e.k _ _ h2 n).2, r.mono e⟩
  | tabs T => obtain ⟨h, h2, u, hu⟩ := h; exact ⟨e.T.trans h, h2, u, q u hu⟩
/-- a list of the written part -/
def SqC (K : PySem.W.Frag) (a : Addr) (xs : List V) : Prop :=
  ∃ (o : Obj) (its : Array Value) (n : Nat), K.lookup a = some o ∧ o.cls = .type "list" ∧ o.dict = none ∧ o.data = .seq its n ∧
    its.size ≤ sizeLine ∧ Vals xs its.toList
/-- the store lies in the heap -/
structure RS (K : PySem.W.Frag) (W : Wd) : Prop where
  dom : ∀ l o, W.S l = some o → l < W.n
  obj : ∀ l o, W.S l = some o → RO W (W.μ l) o
  inj : ∀ l l' o o', W.S l = some o → W.S l' = some o' → W.μ l = W.μ l' → l = l'
  kl : ∀ a vs, W.kl a vs → SqC K a vs
  tb : LamX.Tabs W.T W.H
theorem RS.live {W : Wd} (R : RS K W) {a : Addr} (h : Live W a) : ∃ u, W.H a = some u := by
  obtain ⟨l, o, e, rfl⟩ := h
  exact (R.obj l o e).there
theorem RS.dead {W : Wd} (R : RS K W) {a : Addr} (h : W.H a = none) : ¬ Live W a := fun x => by
  obtain ⟨u, e⟩ := R.live x
  rw [h] at e; cases e
theorem RS.fresh {W : Wd} (R : RS K W) : W.S W.n = none := by
  cases e : W.S W.n with
  | none => rfl
  | some o => exact absurd (R.dom _ _ e) (Nat.lt_irrefl _)

/-! ### steps of the world -/
theorem tabs_new {T : List (Addr × Str)} {H : Hp} {p : Addr} {u : HO} (t : LamX.Tabs T H) (h : H p = none) : LamX.Tabs T (upd H p u) := t.ext fun b o e => by rw [upd_ne (ne_of_none e h)]; exact e
theorem tabs_wr {T : List (Addr × Str)} {H : Hp} {p : Addr} {u w : HO} (t : LamX.Tabs T H) (h : H p = some w) (h1 : ∀ ps, w ≠ .tbl ps) (h2 : ∀ φ, w ≠ .ext φ) : LamX.Tabs T (upd H p u) := fun q hq => by
  obtain ⟨ps, a, b, c⟩ := t q hq
  refine ⟨ps, ?_, b, fun pos cv hc => ?_⟩
  · rw [upd_ne fun z => h1 ps (Option.some.inj (h.symm.trans (by rw [← z]; exact a)))]
    exact a
  · obtain ⟨d, e1, e2⟩ := c pos cv hc
    refine ⟨d, e1, ?_⟩
    rw [upd_ne fun z => h2 _ (Option.some.inj (h.symm.trans (by rw [← z]; exact e2)))]
    exact e2
/-- a new object that bears no label -/
def Wd.add (W : Wd) (p : Addr) (u : HO) : Wd := { W with H := upd W.H p u }
theorem Le.add {W : Wd} (R : RS K W) {p : Addr} {u : HO} (h : W.H p = none) : Le W (W.add p u) :=
  ⟨Nat.le_refl _, fun _ _ => rfl, fun a o e n _ => ⟨by show upd W.H p u a = _; rw [upd_ne (ne_of_none e h)]; exact e, n⟩, rfl, rfl⟩
theorem RS.add {W : Wd} (R : RS K W) {p : Addr} {u : HO} (h : W.H p = none) : RS K (W.add p u) :=
  ⟨R.dom, fun l o e => (R.obj l o e).keep (Le.add R h) fun v q => by show upd W.H p u _ = _; rw [upd_ne (ne_of_none q h)]; exact q, R.inj, R.kl, tabs_new R.tb h⟩
theorem dead_add {W : Wd} (R : RS K W) {p : Addr} {u : HO} (h : W.H p = none) : ¬ Live (W.add p u) p := fun x => R.dead h x
/-- a new living object -/
def Wd.new (W : Wd) (p : Addr) (u : HO) (o : O) : Wd := { μ := fun l => if l = W.n then p else W.μ l, n := W.n + 1, S := put W.S W.n o, H := upd W.H p u, kl := W.kl, T := W.T }
theorem new_lab {W : Wd} {p : Addr} {u : HO} {o : O} : (W.new p u o).μ W.n = p := if_pos rfl
theorem new_old {W : Wd} {p : Addr} {u : HO} {o : O} {l : Nat} (h : l < W.n) : (W.new p u o).μ l = W.μ l := if_neg (Nat.ne_of_lt h)
theorem Le.new {W : Wd} (R : RS K W) {p : Addr} {u : HO} {o : O} (h : W.H p = none) : Le W (W.new p u o) := by
  refine ⟨Nat.le_succ _, fun l hl => new_old hl, fun a v e n _ => ⟨by show upd W.H p u a = _; rw [upd_ne (ne_of_none e h)]; exact e, ?_⟩, rfl, rfl⟩
  rintro ⟨l, q, hq, ha⟩
  by_cases hl : l = W.n
  · subst hl
    rw [new_lab] at ha
    exact ne_of_none e h ha.symm
  · have hq' : W.S l = some q := by
      have z : put W.S W.n o l = some q := hq
      rw [put_ne hl] at z; exact z
    have hm : (W.new p u o).μ l = W.μ l := if_neg hl
    exact n ⟨l, q, hq', hm ▸ ha⟩
theorem RS.new {W : Wd} (R : RS K W) {p : Addr} {u : HO} {o : O} (h : W.H p = none) (hu : RO (W.new p u o) p o) : RS K (W.new p u o) := by
  have key : ∀ l q, (W.new p u o).S l = some q → (l = W.n ∧ q = o) ∨ (l ≠ W.n ∧ W.S l = some q ∧ (W.new p u o).μ l = W.μ l) := fun l q e => by
    by_cases hl : l = W.n
    · subst hl
      have z : put W.S W.n o W.n = some q := e
      rw [put_same] at z
      exact .inl ⟨rfl, (Option.some.inj z).symm⟩
    · have z : put W.S W.n o l = some q := e
      rw [put_ne hl] at z
      exact .inr ⟨hl, z, if_neg hl⟩
  have apart : ∀ l q, W.S l = some q → W.μ l ≠ p := fun l q e z => by
    obtain ⟨v, hv⟩ := (R.obj l q e).there
    rw [z, h] at hv; cases hv
  refine ⟨fun l q e => ?_, fun l q e => ?_, fun l l' q q' e e' z => ?_, R.kl, tabs_new R.tb h⟩
  · rcases key l q e with ⟨rfl, _⟩ | ⟨_, e, _⟩
    · exact Nat.lt_succ_self _
    · exact Nat.lt_succ_of_lt (R.dom l q e)
  · rcases key l q e with ⟨rfl, rfl⟩ | ⟨_, e, hm⟩
    · rw [new_lab]; exact hu
    · rw [hm]
      exact (R.obj l q e).keep (Le.new R h) fun v w => by show upd W.H p u _ = _; rw [upd_ne (ne_of_none w h)]; exact w
  · rcases key l q e with ⟨e1, _⟩ | ⟨_, e1, hm⟩
    · rcases key l' q' e' with ⟨e2, _⟩ | ⟨_, e2, hm'⟩
      · rw [e1, e2]
      · rw [e1, new_lab, hm'] at z; exact absurd z.symm (apart l' q' e2)
    · rcases key l' q' e' with ⟨e2, _⟩ | ⟨_, e2, hm'⟩
      · rw [e2, new_lab, hm] at z; exact absurd z (apart l q e1)
      · rw [hm, hm'] at z; exact R.inj l l' q q' e1 e2 z
/-- a living object is changed -/
def Wd.wr (W : Wd) (l : Nat) (u : HO) (o : O) : Wd := { W with S := put W.S l o, H := upd W.H (W.μ l) u }
theorem live_wr {W : Wd} {l : Nat} {u : HO} {o q : O} (e : W.S l = some q) {a : Addr} : Live (W.wr l u o) a → Live W a := by
  rintro ⟨k, r, hk, ha⟩
  by_cases h : k = l
  · subst h; exact ⟨k, q, e, ha⟩
  · have z : put W.S l o k = some r := hk
    rw [put_ne h] at z
    exact ⟨k, r, z, ha⟩
theorem Le.wr {W : Wd} {l : Nat} {u : HO} {o q : O} (e : W.S l = some q) : Le W (W.wr l u o) :=
  ⟨Nat.le_refl _, fun _ _ => rfl, fun a v h n _ => ⟨by show upd W.H (W.μ l) u a = _; rw [upd_ne fun z => n ⟨l, q, e, z.symm⟩]; exact h, fun x => n (live_wr e x)⟩, rfl, rfl⟩
theorem RS.wr {W : Wd} (R : RS K W) {l : Nat} {u : HO} {o q : O} (e : W.S l = some q) (hu : RO (W.wr l u o) (W.μ l) o) (nq : (∀ C fs, q ≠ .exc C fs) ∧ ∀ T, q ≠ .tabs T := by exact ⟨nofun, nofun⟩) : RS K (W.wr l u o) := by
  have key : ∀ k r, (W.wr l u o).S k = some r → (k = l ∧ r = o) ∨ (k ≠ l ∧ W.S k = some r) := fun k r h => by
    by_cases hk : k = l
    · subst hk
      have z : put W.S k o k = some r := h
      rw [put_same] at z
      exact .inl ⟨rfl, (Option.some.inj z).symm⟩
    · have z : put W.S l o k = some r := h
      rw [put_ne hk] at z
      exact .inr ⟨hk, z⟩
  have old : ∀ k r, (W.wr l u o).S k = some r → ∃ r', W.S k = some r' := fun k r h => by
    rcases key k r h with ⟨rfl, _⟩ | ⟨_, z⟩
    · exact ⟨q, e⟩
    · exact ⟨r, z⟩
  have tb : LamX.Tabs W.T (upd W.H (W.μ l) u) := by
    have z := R.obj l q e
    cases q with
    | lst xs => obtain ⟨_, h, _⟩ := z; exact tabs_wr R.tb h nofun nofun
    | dk xs => obtain ⟨_, h, _⟩ := z; exact tabs_wr R.tb h nofun nofun
    | dt xs => obtain ⟨_, h, _⟩ := z; exact tabs_wr R.tb h nofun nofun
    | orc xs => obtain ⟨_, _, h, _⟩ := z; exact tabs_wr R.tb h nofun nofun
    | exc C xs => exact absurd rfl (nq.1 C xs)
    | tabs T => exact absurd rfl (nq.2 T)
  refine ⟨fun k r h => ?_, fun k r h => ?_, fun k k' r r' h h' z => ?_, R.kl, tb⟩
  · obtain ⟨r', z⟩ := old k r h; exact R.dom k r' z
  · rcases key k r h with ⟨rfl, rfl⟩ | ⟨hk, z⟩
    · exact hu
    · refine (R.obj k r z).keep (Le.wr e) fun v w => ?_
      show upd W.H (W.μ l) u (W.μ k) = _
      rw [upd_ne fun x => hk (R.inj k l r q z e x)]; exact w
  · obtain ⟨s, h⟩ := old k r h
    obtain ⟨s', h'⟩ := old k' r' h'
    exact R.inj k k' s s' h h' z
/-- the store is cut -/
def Wd.cut (W : Wd) (T : Store) : Wd := { W with S := T }
theorem live_cut {W : Wd} {T : Store} (h : Sub T W.S) {a : Addr} : Live (W.cut T) a → Live W a := fun ⟨l, o, e, z⟩ => ⟨l, o, h l o e, z⟩
theorem Le.cut {W : Wd} {T : Store} (h : Sub T W.S) : Le W (W.cut T) := ⟨Nat.le_refl _, fun _ _ => rfl, fun _ _ e n _ => ⟨e, fun x => n (live_cut h x)⟩, rfl, rfl⟩
theorem RS.cut {W : Wd} (R : RS K W) {T : Store} (h : Sub T W.S) : RS K (W.cut T) :=
  ⟨fun l o e => R.dom l o (h l o e), fun l o e => (R.obj l o (h l o e)).keep (Le.cut h) fun _ q => q, fun l l' o o' e e' => R.inj l l' o o' (h l o e) (h l' o' e'), R.kl, R.tb⟩
/-- a list that lives no more is a value -/
theorem RD.freeze {W : Wd} (R : RS K W) {l : Nat} {xs : List D} (e : W.S l = some (.lst xs)) : RD (W.cut (del W.S l)) (.ref (W.μ l)) (.lst xs) := by
  obtain ⟨vs, h, r⟩ := R.obj l _ e
  refine .lst h ?_ (r.mono (Le.cut (Sub.del _ _)))
  rintro ⟨k, o, hk, hm⟩
  by_cases hl : k = l
  · subst hl
    have z : del W.S k k = some o := hk
    rw [del_same] at z; cases z
  · have z : del W.S l k = some o := hk
    rw [del_ne hl] at z
    exact hl (R.inj k l o _ z e hm)
theorem FzL.sq {K : PySem.W.Frag} {W : Wd} (R : RS K W) {a : Addr} {vs : List V} (h : FzL W a vs) : SqL K W.H a vs := h.elim (fun ⟨o, h1, _⟩ => .inl (.inr ⟨o, h1⟩)) fun h => .inr (R.kl a vs h)
end Mir
end

section
set_option Elab.async false
set_option linter.all false
set_option maxRecDepth 100000
set_option maxHeartbeats 2001000
/-! Mirrors: what a piece of syntax does, told of data and the store alone. -/
namespace Mir
open PySem L2

abbrev Env := List (Option D)
abbrev XC := Addr → List (Str × D) → Store → Prop
/-- a mirror that gives an α -/
abbrev Mr (α : Type) := Env → Store → (α → Store → Prop) → XC → Prop
/-- the slots -/
def RE (W : Wd) (σ : St) (ρ : Env) : Prop := σ.length = ρ.length ∧ ∀ (i : Nat) (d : D), ρ[i]? = some (some d) → ∃ v, σ[i]? = some (some v) ∧ RD W v d
theorem RE.mono {W W' : Wd} (e : Le W W') {σ : St} {ρ : Env} (h : RE W σ ρ) : RE W' σ ρ := ⟨h.1, fun i d q => let ⟨v, a, b⟩ := h.2 i d q; ⟨v, a, b.mono e⟩⟩
theorem RE.set {W : Wd} {σ : St} {ρ : Env} (h : RE W σ ρ) (i : Nat) {v : V} {d : D} (r : RD W v d) : RE W (σ.set i (some v)) (ρ.set i (some d)) := by
  refine ⟨by rw [List.length_set, List.length_set]; exact h.1, fun j e q => ?_⟩
  by_cases hj : i = j
  · subst hj
    have hl : i < ρ.length := by
      have z := (List.getElem?_eq_some_iff.mp q).1
      rw [List.length_set] at z
      exact z
    rw [List.getElem?_set_self hl] at q
    cases q
    exact ⟨v, List.getElem?_set_self (by rw [h.1]; exact hl), r⟩
  · rw [List.getElem?_set_ne hj] at q
    rw [List.getElem?_set_ne hj]
    exact h.2 j e q
theorem RE.clr {W : Wd} {σ : St} {ρ : Env} (h : RE W σ ρ) (i : Nat) {o : Option V} : RE W (σ.set i o) (ρ.set i none) := by
  refine ⟨by rw [List.length_set, List.length_set]; exact h.1, fun j e q => ?_⟩
  by_cases hj : i = j
  · subst hj
    by_cases hl : i < ρ.length
    · rw [List.getElem?_set_self hl] at q; cases q
    · rw [List.getElem?_eq_none (by rw [List.length_set]; omega)] at q; cases q
  · rw [List.getElem?_set_ne hj] at q
    rw [List.getElem?_set_ne hj]
    exact h.2 j e q

/-- what is wished of an exception -/
def XR (K : PySem.W.Frag) (W : Wd) (σ : St) (Wx : WX) (X : XC) : Prop :=
  ∀ (W' : Wd) (C dd : Addr) (fv : List (Str × V)) (fs : List (Str × D)), Le W W' → RS K W' → W'.H dd = some (.xd fv) → ¬ Live W' dd → RK W' fv fs → X C fs W'.S → Wx (.ref C) (some dd) σ W'.H
theorem XR.mono {W W' : Wd} (e : Le W W') {σ : St} {Wx : WX} {X : XC} (h : XR K W σ Wx X) : XR K W' σ Wx X := fun W2 C dd fv fs l => h W2 C dd fv fs (e.trans l)
/-- what is wished of a value -/
def Cont (K : PySem.W.Frag) (W : Wd) {α β : Type} (R : Wd → β → α → Prop) (Q : β → Hp → Prop) (Qm : α → Store → Prop) : Prop :=
  ∀ (W' : Wd) (b : β) (a : α), Le W W' → RS K W' → R W' b a → Qm a W'.S → Q b W'.H
theorem Cont.mono {W W' : Wd} (e : Le W W') {α β : Type} {R : Wd → β → α → Prop} {Q : β → Hp → Prop} {Qm : α → Store → Prop} (h : Cont K W R Q Qm) : Cont K W' R Q Qm := fun W2 b a l => h W2 b a (e.trans l)
/-- the reading that a mirror gives -/
def tG (K : PySem.W.Frag) {α β : Type} (R : Wd → β → α → Prop) (m : Mr α) (Wx : WX) : St → Hp → (β → Hp → Prop) → Prop := fun σ H Q =>
  ∃ (W : Wd) (ρ : Env) (Qm : α → Store → Prop) (Xm : XC), W.H = H ∧ RS K W ∧ RE W σ ρ ∧ XR K W σ Wx Xm ∧ Cont K W R Q Qm ∧ m ρ W.S Qm Xm
def RB (_ : Wd) (b : Bool) (a : Bool) : Prop := b = a
abbrev tE (K : PySem.W.Frag) (m : Mr D) (Wx : WX) : TE := tG K RD m Wx
abbrev tA (K : PySem.W.Frag) (m : Mr (List D)) (Wx : WX) : TA := tG K RDs m Wx
abbrev tT (K : PySem.W.Frag) (m : Mr Bool) (Wx : WX) : TT := tG K RB m Wx
structure JE (X : Cx) (e : Expr) (m : Mr D) : Prop where
  pe : ∀ Wx, Takes X Wx → PE X e (tE X.K m Wx)
structure JA (X : Cx) (es : List Expr) (m : Mr (List D)) : Prop where
  pa : ∀ Wx, Takes X Wx → PA X es (tA X.K m Wx)
structure JT (X : Cx) (e : Expr) (m : Mr Bool) : Prop where
  pt : ∀ Wx, Takes X Wx → PT X e (tT X.K m Wx)
structure JW (X : Cx) (e : Expr) (m : Mr Bool) : Prop where
  pw : ∀ Wx, Takes X Wx → PW X e (tT X.K m Wx)
theorem pe_imp {X : Cx} {e : Expr} {t t' : TE} (h : PE X e t) (i : ∀ σ H Q, t' σ H Q → t σ H Q) : PE X e t' := ⟨fun pins s σ H Q I q => h.run pins s σ H Q I (i _ _ _ q)⟩
theorem pt_imp {X : Cx} {e : Expr} {t t' : TT} (h : PT X e t) (i : ∀ σ H Q, t' σ H Q → t σ H Q) : PT X e t' := ⟨fun pins s σ H Q I q => h.run pins s σ H Q I (i _ _ _ q)⟩
theorem pw_imp {X : Cx} {e : Expr} {t t' : TT} (h : PW X e t) (i : ∀ σ H Q, t' σ H Q → t σ H Q) : PW X e t' := ⟨fun wh pins s σ H Q I q => h.run wh pins s σ H Q I (i _ _ _ q)⟩
theorem pa_imp {X : Cx} {es : List Expr} {t t' : TA} (h : PA X es t) (i : ∀ σ H Q, t' σ H Q → t σ H Q) : PA X es t' := ⟨fun pos pins s σ H Q I q => h.run pos pins s σ H Q I (i _ _ _ q)⟩
theorem JW.jt {X : Cx} {e : Expr} {m : Mr Bool} (h : JW X e m) : JT X e m := ⟨fun Wx tk => (h.pw Wx tk).pt⟩

section
variable {X : Cx} {a b c : Expr} {ma mb mc : Mr D} {pos : Pos}
/-! ### names, constants -/
def mVar (i : Nat) : Mr D := fun ρ S Q _ => match ρ[i]? with
  | some (some d) => Q d S
  | _ => False
def mC (d : D) : Mr D := fun _ S Q _ => Q d S
theorem je_var {x : Str} {p : Pos} {i : Nat} (h : PE X (.Name x p) (tVar i)) : JE X (.Name x p) (mVar i) := ⟨fun Wx _ => pe_imp h fun σ H Q ⟨W, ρ, Qm, Xm, eH, rs, re, xr, k, m⟩ => by
  subst eH
  unfold mVar at m
  split at m
  · rename_i d e
    obtain ⟨v, q, r⟩ := re.2 i d e
    exact ⟨v, q, k W v d (Le.refl W) rs r m⟩
  · exact m.elim⟩
theorem je_c {e : Expr} {v : V} {d : D} (h : PE X e (tC v)) (r : ∀ W, RD W v d) : JE X e (mC d) := ⟨fun Wx _ => pe_imp h fun σ H Q ⟨W, ρ, Qm, Xm, eH, rs, re, xr, k, m⟩ => by
  subst eH
  exact k W v d (Le.refl W) rs (r W) m⟩
theorem je_int {i : Int} {j p} : JE X (.Constant (.int i) j p) (mC (.int i)) := je_c pe_int fun _ => .int i
theorem je_bl {i : Bool} {j p} : JE X (.Constant (.bool i) j p) (mC (.bl i)) := je_c pe_bl fun _ => .bl i
theorem je_non {j p} : JE X (.Constant .none j p) (mC .non) := je_c pe_non fun _ => .non
theorem je_str {x : Str} {j p} : JE X (.Constant (.str x) j p) (mC (.str x)) := je_c pe_str fun _ => .str x

/-! ### operators -/
/-- an operation on values: k is what is wanted of the datum -/
abbrev F2 := D → D → Store → (D → Prop) → Prop
def Snd2 (K : PySem.W.Frag) (f : F2) (r : R2) : Prop := ∀ (W : Wd) (x y : V) (a b : D) (Q : VK) (Qm : D → Store → Prop), RS K W → RD W x a → RD W y b → Cont K W RD Q Qm → f a b W.S (fun d => Qm d W.S) → r x y W.H Q
def mOp (f : F2) (ma mb : Mr D) : Mr D := fun ρ S Q X => ma ρ S (fun x S1 => mb ρ S1 (fun y S2 => f x y S2 fun d => Q d S2) X) X
theorem two {f : F2} {r : R2} (hs : Snd2 K f r) {Wx : WX} {σ : St} {H : Hp} {Q : VK} (h : tE K (mOp f ma mb) Wx σ H Q) : tE K ma Wx σ H fun x H1 => tE K mb Wx σ H1 fun y H2 => r x y H2 Q := by
  obtain ⟨W, ρ, Qm, Xm, eH, rs, re, xr, k, m⟩ := h
  refine ⟨W, ρ, _, Xm, eH, rs, re, xr, fun W1 x d l1 rs1 r1 m1 => ?_, m⟩
  refine ⟨W1, ρ, _, Xm, rfl, rs1, re.mono l1, xr.mono l1, fun W2 y d' l2 rs2 r2 m2 => ?_, m1⟩
  exact hs W2 x y d d' Q Qm rs2 (r1.mono l2) r2 (k.mono (l1.trans l2)) m2
theorem je_op {op : Operator} {f : F2} {r : R2} (ha : JE X a ma) (hb : JE X b mb) (ho : OpR X (binaryOp op) r) (hs : Snd2 X.K f r) : JE X (.BinOp a op b pos) (mOp f ma mb) :=
  ⟨fun Wx tk => pe_imp (pe_op ho (ha.pe Wx tk) (hb.pe Wx tk)) fun _ _ _ h => two hs h⟩
theorem je_cmp {op : CmpOp} {f : F2} {r : R2} (ha : JE X a ma) (hb : JE X b mb) (ho : OpR X (compareOp op) r) (hs : Snd2 X.K f r) (hm : behindInMarks op b = false := by first | exact nobehind _ (by decide) (by decide) | rfl) : JE X (.Compare a [op] [b] pos) (mOp f ma mb) :=
  ⟨fun Wx tk => pe_imp (pe_cmpR ho (ha.pe Wx tk) (hb.pe Wx tk) hm) fun _ _ _ h => two hs h⟩
/-- a test by its value, a bool -/
def mT (m : Mr D) : Mr Bool := fun ρ S Q X => m ρ S (fun d S1 => match d with
  | .bl b => Q b S1
  | _ => False) X
theorem jt_val {e : Expr} {m : Mr D} (h : JE X e m) (he : ∀ whole, isTrue e X.env whole = (do let v ← whole; standAt e.pos; holding [v] (truthy v)) := by intro _; rfl) : JT X e (mT m) :=
  ⟨fun Wx tk => pt_imp (pt_val (h.pe Wx tk) he) fun σ H Q ⟨W, ρ, Qm, Xm, eH, rs, re, xr, k, m⟩ => ⟨W, ρ, _, Xm, eH, rs, re, xr, fun W1 x d l1 rs1 r1 m1 => by
    cases r1 <;> first | exact m1.elim | exact ⟨_, rfl, k W1 _ _ l1 rs1 rfl m1⟩, m⟩⟩
theorem jt_cmp {op : CmpOp} {f : F2} {r : R2} (ha : JE X a ma) (hb : JE X b mb) (ho : OpR X (compareOp op) r) (hs : Snd2 X.K f r) (hm : behindInMarks op b = false := by first | exact nobehind _ (by decide) (by decide) | rfl) : JT X (.Compare a [op] [b] pos) (mT (mOp f ma mb)) :=
  ⟨fun Wx tk => pt_imp (pt_cmpR ho (ha.pe Wx tk) (hb.pe Wx tk) hm) fun σ H Q ⟨W, ρ, Qm, Xm, eH, rs, re, xr, k, m⟩ => by
    have h : tE X.K (mOp f ma mb) Wx σ H fun x H' => ∃ k, x = .bl k ∧ Q k H' := ⟨W, ρ, _, Xm, eH, rs, re, xr, fun W1 x d l1 rs1 r1 m1 => by
      cases r1 <;> first | exact m1.elim | exact ⟨_, rfl, k W1 _ _ l1 rs1 rfl m1⟩, m⟩
    exact two hs h⟩
/-- and, or, not -/
def mAnd (t u : Mr Bool) : Mr Bool := fun ρ S Q X => t ρ S (fun b S1 => if b = true then u ρ S1 Q X else Q false S1) X
def mOr (t u : Mr Bool) : Mr Bool := fun ρ S Q X => t ρ S (fun b S1 => if b = true then Q true S1 else u ρ S1 Q X) X
def mNot (t : Mr Bool) : Mr Bool := fun ρ S Q X => t ρ S (fun b S1 => Q (!b) S1) X
variable {ta tb : Mr Bool} {rest : List Expr}
theorem jw_and1 (ha : JT X a ta) : JW X (.BoolOp .And [a] pos) ta := ⟨fun Wx tk => pw_and1 (ha.pt Wx tk)⟩
theorem jw_or1 (ha : JT X a ta) : JW X (.BoolOp .Or [a] pos) ta := ⟨fun Wx tk => pw_or1 (ha.pt Wx tk)⟩
theorem jw_and (ha : JT X a ta) (hb : JW X (.BoolOp .And (b :: rest) pos) tb) : JW X (.BoolOp .And (a :: b :: rest) pos) (mAnd ta tb) :=
  ⟨fun Wx tk => pw_imp (pw_and (ha.pt Wx tk) (hb.pw Wx tk)) fun σ H Q ⟨W, ρ, Qm, Xm, eH, rs, re, xr, k, m⟩ => ⟨W, ρ, _, Xm, eH, rs, re, xr, fun W1 x d l1 rs1 r1 m1 => by
    cases r1
    cases x
    · exact k W1 _ _ l1 rs1 rfl m1
    · exact ⟨W1, ρ, _, Xm, rfl, rs1, re.mono l1, xr.mono l1, k.mono l1, m1⟩, m⟩⟩
theorem jw_or (ha : JT X a ta) (hb : JW X (.BoolOp .Or (b :: rest) pos) tb) : JW X (.BoolOp .Or (a :: b :: rest) pos) (mOr ta tb) :=
  ⟨fun Wx tk => pw_imp (pw_or (ha.pt Wx tk) (hb.pw Wx tk)) fun σ H Q ⟨W, ρ, Qm, Xm, eH, rs, re, xr, k, m⟩ => ⟨W, ρ, _, Xm, eH, rs, re, xr, fun W1 x d l1 rs1 r1 m1 => by
    cases r1
    cases x
    · exact ⟨W1, ρ, _, Xm, rfl, rs1, re.mono l1, xr.mono l1, k.mono l1, m1⟩
    · exact k W1 _ _ l1 rs1 rfl m1, m⟩⟩
theorem jt_not (ha : JT X a ta) : JT X (.UnaryOp .Not a pos) (mNot ta) :=
  ⟨fun Wx tk => pt_imp (pt_not (ha.pt Wx tk)) fun σ H Q ⟨W, ρ, Qm, Xm, eH, rs, re, xr, k, m⟩ => ⟨W, ρ, _, Xm, eH, rs, re, xr, fun W1 x d l1 rs1 r1 m1 => by
    cases r1
    exact k W1 _ _ l1 rs1 rfl m1, m⟩⟩
/-- a test's answer as a value -/
def mB (t : Mr Bool) : Mr D := fun ρ S Q X => t ρ S (fun b S1 => Q (.bl b) S1) X
/-- a if t else b -/
def mIf (t : Mr Bool) (ma mb : Mr D) : Mr D := fun ρ S Q X => t ρ S (fun b S1 => if b = true then ma ρ S1 Q X else mb ρ S1 Q X) X
theorem je_if (hc : JT X c ta) (ha : JE X a ma) (hb : JE X b mb) : JE X (.IfExp c a b pos) (mIf ta ma mb) :=
  ⟨fun Wx tk => pe_imp (pe_ifExp (hc.pt Wx tk) (ha.pe Wx tk) (hb.pe Wx tk)) fun σ H Q ⟨W, ρ, Qm, Xm, eH, rs, re, xr, k, m⟩ => ⟨W, ρ, _, Xm, eH, rs, re, xr, fun W1 x d l1 rs1 r1 m1 => by
    cases r1
    cases x
    · exact ⟨W1, ρ, _, Xm, rfl, rs1, re.mono l1, xr.mono l1, k.mono l1, m1⟩
    · exact ⟨W1, ρ, _, Xm, rfl, rs1, re.mono l1, xr.mono l1, k.mono l1, m1⟩, m⟩⟩
/-- and, or of bools as values -/
def mAndV (ma mb : Mr D) : Mr D := fun ρ S Q X => ma ρ S (fun d S1 => match d with
  | .bl true => mb ρ S1 Q X
  | .bl false => Q (.bl false) S1
  | _ => False) X
def mOrV (ma mb : Mr D) : Mr D := fun ρ S Q X => ma ρ S (fun d S1 => match d with
  | .bl true => Q (.bl true) S1
  | .bl false => mb ρ S1 Q X
  | _ => False) X
def mNotV (ma : Mr D) : Mr D := fun ρ S Q X => ma ρ S (fun d S1 => match d with
  | .bl b => Q (.bl (!b)) S1
  | _ => False) X
theorem je_one {op} (h : JE X a ma) : JE X (.BoolOp op [a] pos) ma := ⟨fun Wx tk => pe_one (h.pe Wx tk)⟩
theorem je_and (ha : JE X a ma) (hb : JE X (.BoolOp .And (b :: rest) pos) mb) : JE X (.BoolOp .And (a :: b :: rest) pos) (mAndV ma mb) :=
  ⟨fun Wx tk => pe_imp (pe_and (ha.pe Wx tk) (hb.pe Wx tk)) fun σ H Q ⟨W, ρ, Qm, Xm, eH, rs, re, xr, k, m⟩ => ⟨W, ρ, _, Xm, eH, rs, re, xr, fun W1 x d l1 rs1 r1 m1 => by
    cases r1 <;> first | exact m1.elim | skip
    rename_i v
    refine ⟨v, rfl, ?_⟩
    cases v
    · exact k W1 _ _ l1 rs1 (.bl false) m1
    · exact ⟨W1, ρ, _, Xm, rfl, rs1, re.mono l1, xr.mono l1, k.mono l1, m1⟩, m⟩⟩
theorem je_or (ha : JE X a ma) (hb : JE X (.BoolOp .Or (b :: rest) pos) mb) : JE X (.BoolOp .Or (a :: b :: rest) pos) (mOrV ma mb) :=
  ⟨fun Wx tk => pe_imp (pe_or (ha.pe Wx tk) (hb.pe Wx tk)) fun σ H Q ⟨W, ρ, Qm, Xm, eH, rs, re, xr, k, m⟩ => ⟨W, ρ, _, Xm, eH, rs, re, xr, fun W1 x d l1 rs1 r1 m1 => by
    cases r1 <;> first | exact m1.elim | skip
    rename_i v
    refine ⟨v, rfl, ?_⟩
    cases v
    · exact ⟨W1, ρ, _, Xm, rfl, rs1, re.mono l1, xr.mono l1, k.mono l1, m1⟩
    · exact k W1 _ _ l1 rs1 (.bl true) m1, m⟩⟩
theorem je_not (ha : JE X a ma) : JE X (.UnaryOp .Not a pos) (mNotV ma) :=
  ⟨fun Wx tk => pe_imp (pe_not (ha.pe Wx tk)) fun σ H Q ⟨W, ρ, Qm, Xm, eH, rs, re, xr, k, m⟩ => ⟨W, ρ, _, Xm, eH, rs, re, xr, fun W1 x d l1 rs1 r1 m1 => by
    cases r1 <;> first | exact m1.elim | skip
    rename_i v
    exact ⟨v, rfl, k W1 _ _ l1 rs1 (.bl _) m1⟩, m⟩⟩
/-- one operand -/
abbrev F1 := D → Store → (D → Prop) → Prop
def Snd1 (K : PySem.W.Frag) (f : F1) (r : V → Hp → VK → Prop) : Prop := ∀ (W : Wd) (x : V) (a : D) (Q : VK) (Qm : D → Store → Prop), RS K W → RD W x a → Cont K W RD Q Qm → f a W.S (fun d => Qm d W.S) → r x W.H Q
def mUn (f : F1) (ma : Mr D) : Mr D := fun ρ S Q X => ma ρ S (fun x S1 => f x S1 fun d => Q d S1) X
theorem je_un {op : UnaryOp} {f : F1} {r : V → Hp → VK → Prop} (ha : JE X a ma) (ho : UnR X (unaryOp op) r) (hs : Snd1 X.K f r) : JE X (.UnaryOp op a pos) (mUn f ma) :=
  ⟨fun Wx tk => pe_imp (pe_un ho (ha.pe Wx tk)) fun σ H Q ⟨W, ρ, Qm, Xm, eH, rs, re, xr, k, m⟩ => ⟨W, ρ, _, Xm, eH, rs, re, xr, fun W1 x d l1 rs1 r1 m1 => hs W1 x d Q Qm rs1 r1 (k.mono l1) m1, m⟩⟩

/-! ### arguments, displays -/
def mNil : Mr (List D) := fun _ S Q _ => Q [] S
def mCons (m : Mr D) (ms : Mr (List D)) : Mr (List D) := fun ρ S Q X => m ρ S (fun d S1 => ms ρ S1 (fun ds S2 => Q (d :: ds) S2) X) X
variable {es : List Expr} {ms : Mr (List D)}
theorem ja_nil : JA X [] mNil := ⟨fun Wx _ => pa_imp pa_nil fun σ H Q ⟨W, ρ, Qm, Xm, eH, rs, re, xr, k, m⟩ => by
  subst eH
  exact k W [] [] (Le.refl W) rs .nil m⟩
theorem ja_cons (ha : JE X a ma) (hr : JA X es ms) (hs : starEach (a :: es) X.env = (false, eval a X.env) :: starEach es X.env := by rfl) : JA X (a :: es) (mCons ma ms) :=
  ⟨fun Wx tk => pa_imp (pa_cons (ha.pe Wx tk) (hr.pa Wx tk) hs) fun σ H Q ⟨W, ρ, Qm, Xm, eH, rs, re, xr, k, m⟩ =>
    ⟨W, ρ, _, Xm, eH, rs, re, xr, fun W1 x d l1 rs1 r1 m1 => ⟨W1, ρ, _, Xm, rfl, rs1, re.mono l1, xr.mono l1, fun W2 xs ds l2 rs2 r2 m2 => k W2 _ _ (l1.trans l2) rs2 (.cons (r1.mono l2) r2) m2, m1⟩, m⟩⟩
def small (n : Nat) : Prop := n ≤ 100000
theorem small_line {n : Nat} (h : small n) : n ≤ sizeLine := Nat.le_trans h (by decide)
theorem small_lt {n : Nat} (h : small n) : n < sizeLine := Nat.lt_of_le_of_lt h (by decide)
/-- a new value at p: a tuple, a list that never changes -/
theorem new_tup {W : Wd} (rs : RS K W) {p : Addr} {vs : List V} {ds : List D} (h : W.H p = none) (r : RDs W vs ds) : RD (W.add p (.tup vs)) (.ref p) (.tup ds) := .tup upd_same (dead_add rs h) (r.mono (Le.add rs h))
theorem new_lst {W : Wd} (rs : RS K W) {p : Addr} {vs : List V} {ds : List D} (h : W.H p = none) (r : RDs W vs ds) : RD (W.add p (.lst vs)) (.ref p) (.lst ds) := .lst upd_same (dead_add rs h) (r.mono (Le.add rs h))
theorem Cont.tup {W : Wd} {Q : VK} {Qm : D → Store → Prop} (k : Cont K W RD Q Qm) (rs : RS K W) {vs : List V} {ds : List D} (r : RDs W vs ds) (m : Qm (.tup ds) W.S) : ∀ p, W.H p = none → Q (.ref p) (upd W.H p (.tup vs)) := fun p hp =>
  k (W.add p (.tup vs)) _ _ (Le.add rs hp) (rs.add hp) (new_tup rs hp r) m
theorem Cont.lst {W : Wd} {Q : VK} {Qm : D → Store → Prop} (k : Cont K W RD Q Qm) (rs : RS K W) {vs : List V} {ds : List D} (r : RDs W vs ds) (m : Qm (.lst ds) W.S) : ∀ p, W.H p = none → Q (.ref p) (upd W.H p (.lst vs)) := fun p hp =>
  k (W.add p (.lst vs)) _ _ (Le.add rs hp) (rs.add hp) (new_lst rs hp r) m
/-- .. a living object -/
theorem Cont.new {W : Wd} {Q : VK} {Qm : D → Store → Prop} (k : Cont K W RD Q Qm) (rs : RS K W) {u : HO} {o : O} (hu : ∀ p, W.H p = none → RO (W.new p u o) p o) (m : ∀ l, W.S l = none → Qm (.ref l) (put W.S l o)) : ∀ p, W.H p = none → Q (.ref p) (upd W.H p u) := fun p hp => by
  have q := k (W.new p u o) (.ref p) (.ref W.n) (Le.new rs hp) (rs.new hp (hu p hp)) (by have z := RD.ref (W := W.new p u o) W.n (Nat.lt_succ_self _); rw [new_lab] at z; exact z) (m _ rs.fresh)
  exact q
def mTup (ms : Mr (List D)) : Mr D := fun ρ S Q X => ms ρ S (fun ds S1 => small ds.length ∧ Q (.tup ds) S1) X
def mLst (ms : Mr (List D)) : Mr D := fun ρ S Q X => ms ρ S (fun ds S1 => small ds.length ∧ Q (.lst ds) S1) X
/-- a list that will change -/
def mNew (ms : Mr (List D)) : Mr D := fun ρ S Q X => ms ρ S (fun ds S1 => small ds.length ∧ ∀ l, S1 l = none → Q (.ref l) (put S1 l (.lst ds))) X
theorem je_tup {x1} (h : JA X es ms) : JE X (.Tuple es x1 pos) (mTup ms) :=
  ⟨fun Wx tk => pe_imp (pe_tup (h.pa Wx tk)) fun σ H Q ⟨W, ρ, Qm, Xm, eH, rs, re, xr, k, m⟩ => ⟨W, ρ, _, Xm, eH, rs, re, xr, fun W1 xs ds l1 rs1 r1 m1 => ⟨small_line (by rw [r1.length]; exact m1.1), (k.mono l1).tup rs1 r1 m1.2⟩, m⟩⟩
theorem je_lst (h : JA X es ms) : JE X (.List es pos) (mLst ms) :=
  ⟨fun Wx tk => pe_imp (pe_lst (h.pa Wx tk)) fun σ H Q ⟨W, ρ, Qm, Xm, eH, rs, re, xr, k, m⟩ => ⟨W, ρ, _, Xm, eH, rs, re, xr, fun W1 xs ds l1 rs1 r1 m1 => ⟨small_line (by rw [r1.length]; exact m1.1), (k.mono l1).lst rs1 r1 m1.2⟩, m⟩⟩
theorem je_new (h : JA X es ms) : JE X (.List es pos) (mNew ms) :=
  ⟨fun Wx tk => pe_imp (pe_lst (h.pa Wx tk)) fun σ H Q ⟨W, ρ, Qm, Xm, eH, rs, re, xr, k, m⟩ => ⟨W, ρ, _, Xm, eH, rs, re, xr, fun W1 xs ds l1 rs1 r1 m1 => ⟨small_line (by rw [r1.length]; exact m1.1), (k.mono l1).new (o := .lst ds) rs1 (fun p hp => ⟨xs, upd_same, r1.mono (Le.new rs1 hp)⟩) m1.2⟩, m⟩⟩

/-! ### calls of what the language brings, by values -/
abbrev FA := List D → Store → (D → Prop) → Prop
def SndA (K : PySem.W.Frag) (f : FA) (r : List V → Hp → VK → Prop) : Prop := ∀ (W : Wd) (xs : List V) (ds : List D) (Q : VK) (Qm : D → Store → Prop), RS K W → RDs W xs ds → Cont K W RD Q Qm → f ds W.S (fun d => Qm d W.S) → r xs W.H Q
def mApp (f : FA) (ms : Mr (List D)) : Mr D := fun ρ S Q X => ms ρ S (fun ds S1 => f ds S1 fun d => Q d S1) X
theorem je_app {x : Str} {p : Pos} {id : String} {f : FA} {r : List V → Hp → VK → Prop} (hc : CallR X (.builtin id) r) (hs : SndA X.K f r) (hm : X.mg x = none) (hv : bootBuiltins x = some (.builtin id)) (ha : JA X (a :: es) ms) (hg : Gl X x := by rfl) (hn : x ≠ "__name__" := by decide) (hdb : (x == ("__debug__" : Str)) = false := by decide)
    (he : starEach (a :: es) X.env = (false, eval a X.env) :: starEach es X.env := by rfl) (hpl : (backTo pos (starEach es X.env)).any (·.1) = false := by rfl) : JE X (.Call (.Name x p) (a :: es) [] pos) (mApp f ms) :=
  ⟨fun Wx tk => pe_imp (pe_callB hc hg hm hv (ha.pa Wx tk) hn hdb he hpl) fun σ H Q ⟨W, ρ, Qm, Xm, eH, rs, re, xr, k, m⟩ => ⟨W, ρ, _, Xm, eH, rs, re, xr, fun W1 xs ds l1 rs1 r1 m1 => hs W1 xs ds Q Qm rs1 r1 (k.mono l1) m1, m⟩⟩
theorem je_appT {x : Str} {p : Pos} {T : String} {f : FA} {r : List V → Hp → VK → Prop} (hc : CallR X (.type T) r) (hs : SndA X.K f r) (hm : X.mg x = none) (hv : bootBuiltins x = some (.type T)) (ha : JA X (a :: es) ms) (hg : Gl X x := by rfl) (hn : x ≠ "__name__" := by decide) (hdb : (x == ("__debug__" : Str)) = false := by decide)
    (he : starEach (a :: es) X.env = (false, eval a X.env) :: starEach es X.env := by rfl) (hpl : (backTo pos (starEach es X.env)).any (·.1) = false := by rfl) : JE X (.Call (.Name x p) (a :: es) [] pos) (mApp f ms) :=
  ⟨fun Wx tk => pe_imp (pe_callTy hc hg hm hv (ha.pa Wx tk) hn hdb he hpl) fun σ H Q ⟨W, ρ, Qm, Xm, eH, rs, re, xr, k, m⟩ => ⟨W, ρ, _, Xm, eH, rs, re, xr, fun W1 xs ds l1 rs1 r1 m1 => hs W1 xs ds Q Qm rs1 r1 (k.mono l1) m1, m⟩⟩
end
end Mir
end

section
set_option Elab.async false
set_option linter.all false
set_option maxRecDepth 100000
set_option maxHeartbeats 2001000
/-! Operations by data. -/
namespace Mir
open PySem L2

/-- the items of a list, a value or a living one -/
def asL (S : Store) : D → Option (List D)
  | .lst xs => some xs
  | .frz xs => some xs
  | .ref l => (S l).bind fun o => match o with
    | .lst xs => some xs
    | _ => none
  | _ => none
theorem asL_of {K : PySem.W.Frag} {W : Wd} (rs : RS K W) {v : V} {d : D} {xs : List D} (r : RD W v d) (h : asL W.S d = some xs) : ∃ a vs, v = .ref a ∧ SqL K W.H a vs ∧ RDs W vs xs := by
  cases r with
  | lst h1 h2 h3 =>
    cases h
    exact ⟨_, _, rfl, .inl (.inl h1), h3⟩
  | frz h1 h3 =>
    cases h
    exact ⟨_, _, rfl, h1.sq rs, h3⟩
  | ref l hl =>
    have h' : ((W.S l).bind fun o => match o with
      | .lst xs => some xs
      | _ => none) = some xs := h
    cases e : W.S l with
    | none =>
        rw [e] at h'; cases h'
    | some o =>
      rw [e] at h'
      cases o with
      | lst ys =>
        cases h'
        obtain ⟨vs, h1, h2⟩ := rs.obj l _ e
        exact ⟨_, vs, rfl, .inl (.inl h1), h2⟩
      | _ => cases h'
  | _ => cases h
theorem tup_of {K : PySem.W.Frag} {W : Wd} {v : V} {xs : List D} (r : RD W v (.tup xs)) : ∃ a vs, v = .ref a ∧ SqT K W.H a vs ∧ RDs W vs xs := by
  cases r with
  | tup h1 h2 h3 => exact ⟨_, _, rfl, .inl (.inl h1), h3⟩
/-- the items of a list or a tuple -/
def asQ (S : Store) : D → Option (List D)
  | .tup xs => some xs
  | d => asL S d
theorem asQ_of {K : PySem.W.Frag} {W : Wd} (rs : RS K W) {v : V} {d : D} {xs : List D} (r : RD W v d) (h : asQ W.S d = some xs) : ∃ a vs, v = .ref a ∧ (SqL K W.H a vs ∨ SqT K W.H a vs) ∧ RDs W vs xs := by
  unfold asQ at h
  split at h
  · cases h
    obtain ⟨a, vs, h1, h2, h3⟩ := tup_of (K := K) r
    exact ⟨a, vs, h1, .inr h2, h3⟩
  · obtain ⟨a, vs, h1, h2, h3⟩ := asL_of (K := K) rs r h
    exact ⟨a, vs, h1, .inl h2, h3⟩

/-! ### list + list, any of both may be locked -/
def rCatL (K : PySem.W.Frag) : R2 := fun x y H Q => ∃ l b xs zs, x = .ref l ∧ y = .ref b ∧ SqL K H l xs ∧ SqL K H b zs ∧ xs.length + zs.length ≤ sizeLine ∧ ∀ p, H p = none → Q (.ref p) (upd H p (.lst (xs ++ zs)))
theorem op_catL {X : Cx} : OpR X (binaryOp .Add) (rCatL X.K) := by
  rintro pins s σ H x y v u Q I rx ry ⟨l, b, xs, zs, rfl, rfl, hH, hB, hz, q⟩
  cases rx
  cases ry
  obtain ⟨its, r, p1, h1⟩ := I.list hH
  obtain ⟨its2, r2, p2, h2⟩ := I.list hB
  obtain ⟨⟨c1, d1, dt1, sl1⟩, n1, g1, e1, e2, e3⟩ := p1
  obtain ⟨⟨c2, d2, dt2, sl2⟩, n2, g2, e4, e5, e6⟩ := p2
  simp only at e1 e2 e3 e4 e5 e6
  subst e1 e2 e3 e4 e5 e6
  have ea : its.toArray ++ its2.toArray = (its ++ its2).toArray :=
      by simp
  refine concat_meets ⟨_, g1, rfl⟩ ⟨_, g2, rfl⟩ PySem.noFill_list_add PySem.seq_list_add PySem.F.slot_list_add PySem.F.entry_list_add (PySem.F.args_list_add_2 _ _)
    (PyProof.Rows.list_addW l b its.toArray its2.toArray n1 n2 none none sl1 sl2 (by rw [List.size_toArray, List.size_toArray, ← r.length, ← r2.length]; exact hz)) ⟨g1, g2, ?_⟩
  rw [ea]
  exact ⟨.ref _, _, I.lnew (t' := s.toks) (r.append r2) (by rw [List.length_append]; exact hz), rfl, q _ I.fresh⟩

/-! ### + -/
def fAdd : F2 := fun a b S k => match a, b with
  | .int i, .int j => k (.int (i + j))
  | .str x, .str y => x.length + y.length ≤ sizeLine ∧ k (.str (x ++ y))
  | .tup xs, .tup ys => small (xs.length + ys.length) ∧ k (.tup (xs ++ ys))
  | a, b => match asL S a, asL S b with
    | some xs, some ys => small (xs.length + ys.length) ∧ k (.lst (xs ++ ys))
    | _, _ => False
def rAddM (K : PySem.W.Frag) : R2 := fun x y H Q => (rI0 (fun i j => .int (i + j)) x y H Q ∨ (∃ i j, x = .str i ∧ y = .str j ∧ i.length + j.length ≤ sizeLine ∧ Q (.str (i ++ j)) H)) ∨ (rCatA K x y H Q ∨ rCatL K x y H Q)
theorem op_addM {X : Cx} : OpR X (binaryOp .Add) (rAddM X.K) := (op_add.or op_add_str).or (op_catA.or op_catL)
theorem snd_add {K : PySem.W.Frag} : Snd2 K fAdd (rAddM K) := by
  intro W x y a b Q Qm rs ra rb k m
  have lists : (match asL W.S a, asL W.S b with
    | some xs, some ys => small (xs.length + ys.length) ∧ Qm (.lst (xs ++ ys)) W.S
    | _, _ => False) → rAddM K x y W.H Q := fun m => by
    split at m
    · rename_i xs ys e1 e2
      obtain ⟨p, vs, rfl, h1, h2⟩ := asL_of (K := K) rs ra e1
      obtain ⟨q, us, rfl, h3, h4⟩ := asL_of (K := K) rs rb e2
      exact .inr (.inr ⟨p, q, vs, us, rfl, rfl, h1, h3, small_line (by rw [h2.length, h4.length]; exact m.1), k.lst rs (h2.app h4) m.2⟩)
    · exact m.elim
  unfold fAdd at m
  split at m
  · cases ra; cases rb
    exact .inl (.inl ⟨_, _, rfl, rfl, k W _ _ (Le.refl W) rs (.int _) m⟩)
  · cases ra; cases rb
    exact .inl (.inr ⟨_, _, rfl, rfl, m.1, k W _ _ (Le.refl W) rs (.str _) m.2⟩)
  · rename_i xs ys
    obtain ⟨p, vs, rfl, h1, h2⟩ := tup_of (K := K) ra
    obtain ⟨q, us, rfl, h3, h4⟩ := tup_of (K := K) rb
    refine .inr (.inl ⟨p, q, vs, us, rfl, rfl, h1, h3, small_line (by rw [h2.length, h4.length]; exact m.1), fun e => ?_, fun _ e => ?_, fun _ _ => k.tup rs (h2.app h4) m.2⟩)
    · subst e
      cases h2
      exact k W _ _ (Le.refl W) rs rb m.2
    · subst e
      cases h4
      rw [List.append_nil] at m
      exact k W _ _ (Le.refl W) rs ra m.2
  · exact lists m
/-! ### ints -/
def fInt (C : Int → Int → Prop) (g : Int → Int → Int) : F2 := fun a b _ k => match a, b with
  | .int i, .int j => C i j ∧ k (.int (g i j))
  | _, _ => False
theorem snd_int {C : Int → Int → Prop} {g : Int → Int → Int} : Snd2 K (fInt C g) (rI C fun i j => .int (g i j)) := by
  intro W x y a b Q Qm rs ra rb k m
  unfold fInt at m
  split at m
  · cases ra; cases rb
    exact ⟨_, _, rfl, rfl, m.1, k W _ _ (Le.refl W) rs (.int _) m.2⟩
  · exact m.elim
def fI0 (g : Int → Int → D) : F2 := fun a b _ k => match a, b with
  | .int i, .int j => k (g i j)
  | _, _ => False
theorem snd_I0 {g : Int → Int → Int} : Snd2 K (fI0 fun i j => .int (g i j)) (rI0 fun i j => .int (g i j)) := by
  intro W x y a b Q Qm rs ra rb k m
  unfold fI0 at m
  split at m
  · cases ra; cases rb
    exact ⟨_, _, rfl, rfl, k W _ _ (Le.refl W) rs (.int _) m⟩
  · exact m.elim
theorem snd_B0 {g : Int → Int → Bool} : Snd2 K (fI0 fun i j => .bl (g i j)) (rI0 fun i j => .bl (g i j)) := by
  intro W x y a b Q Qm rs ra rb k m
  unfold fI0 at m
  split at m
  · cases ra; cases rb
    exact ⟨_, _, rfl, rfl, k W _ _ (Le.refl W) rs (.bl _) m⟩
  · exact m.elim
abbrev fSub : F2 := fI0 fun i j => .int (i - j)
abbrev fLt : F2 := fI0 fun i j => .bl (decide (i < j))
abbrev fLe : F2 := fI0 fun i j => .bl (decide (i ≤ j))
abbrev fGt : F2 := fI0 fun i j => .bl (decide (j < i))
abbrev fGe : F2 := fI0 fun i j => .bl (decide (j ≤ i))
abbrev fDiv : F2 := fInt CDivN Int.fdiv
abbrev fMod : F2 := fInt (fun _ j => j ≠ 0) Int.fmod
abbrev fPow : F2 := fInt CPow fun i j => i ^ j.toNat
def fNeg : F1 := fun a _ k => match a with
  | .int i => k (.int (-i))
  | _ => False
theorem snd_neg : Snd1 K fNeg (rU fun i => .int (-i)) := by
  intro W x a Q Qm rs ra k m
  unfold fNeg at m
  split at m
  · cases ra
    exact ⟨_, rfl, k W _ _ (Le.refl W) rs (.int _) m⟩
  · exact m.elim
/-! ### * : ints, a list or a tuple some times -/
def fMul : F2 := fun a b S k => match a, b with
  | .int i, .int j => CMul i j ∧ k (.int (i * j))
  | .tup xs, .int j => xs ≠ [] ∧ 2 ≤ j ∧ j ≤ 1000 ∧ xs.length ≤ 1000 ∧ k (.tup (List.replicate j.toNat xs).flatten)
  | .lst xs, .int j => xs.length ≤ 1000 ∧ -1000 ≤ j ∧ j ≤ 1000 ∧ k (.lst (List.replicate j.toNat xs).flatten)
  | _, _ => False
def rMulM (K : PySem.W.Frag) : R2 := fun x y H Q => rI CMul (fun i j => .int (i * j)) x y H Q ∨ (rRepT K x y H Q ∨ rRep x y H Q)
theorem op_mulM {X : Cx} : OpR X (binaryOp .Mult) (rMulM X.K) := op_mul.or (op_repT.or op_rep)
theorem RDs.rep {W : Wd} {vs : List V} {ds : List D} (r : RDs W vs ds) : ∀ n : Nat, RDs W (List.replicate n vs).flatten (List.replicate n ds).flatten
  | 0 => .nil
  | n + 1 => by
    rw [List.replicate_succ, List.replicate_succ,
        List.flatten_cons, List.flatten_cons]
    exact r.app (RDs.rep r n)
theorem snd_mul {K : PySem.W.Frag} : Snd2 K fMul (rMulM K) := by
  intro W x y a b Q Qm rs ra rb k m
  unfold fMul at m
  split at m
  · cases ra; cases rb
    exact .inl ⟨_, _, rfl, rfl, m.1, k W _ _ (Le.refl W) rs (.int _) m.2⟩
  · cases rb
    obtain ⟨p, vs, rfl, h1, h2⟩ := tup_of (K := K) ra
    obtain ⟨m1, m2, m3, m4, m5⟩ := m
    refine .inr (.inl ⟨p, _, vs, rfl, rfl, h1, fun e => m1 ?_, m2, m3, by rw [h2.length]; exact m4, k.tup rs (h2.rep _) m5⟩)
    subst e
    cases h2
    rfl
  · cases rb
    cases ra with
    | lst h1 hn h2 =>
      rename_i j _ vs
      obtain ⟨m1, m2, m3, m4⟩ := m
      refine .inr (.inr ⟨_, _, _, rfl, rfl, h1, by omega, by omega, ?_, k.lst rs (h2.rep _) m4⟩)
      have e1 : vs.length ≤ 1000 := by rw [h2.length]; exact m1
      have e2 : j.toNat ≤ 1000 := by omega
      exact Nat.le_trans (Nat.mul_le_mul e1 e2) (by decide)
  · exact m.elim
end Mir
end

section
set_option Elab.async false
set_option linter.all false
set_option maxRecDepth 100000
set_option maxHeartbeats 2001000
namespace Mir
open PySem L2

/-! ### plain data -/
mutual
def py : D → Option PyData
  | .non => some .none
  | .bl b => some (.bool b)
  | .int i => some (.int i)
  | .str s => some (.str s)
  | .tup xs => (pys xs).map PyData.tuple
  | .lst xs => (pys xs).map PyData.list
  | .frz xs => (pys xs).map PyData.list
  | .ref _ => none
  | .dct _ _ => none
  | .dctT _ _ => none
def pys : List D → Option (List PyData)
  | [] => some []
  | d :: ds => (py d).bind fun p => (pys ds).map fun q => p :: q
end
mutual
theorem RD.dp {K : PySem.W.Frag} {W : Wd} (R : RS K W) : ∀ {d : D} {v : V} {p : PyData}, RD W v d → py d = some p → Dp K W.H v p
  | .non, _, _, .non, h => by cases h; exact .non
  | .bl _, _, _, .bl b, h => by cases h; exact .bl b
  | .int _, _, _, .int i, h => by cases h; exact .int i
  | .str _, _, _, .str s, h => by cases h; exact .str s
  | .tup ds, _, _, .tup h1 _ h3, h => by
    rw [py] at h
    cases e : pys ds with
    | none =>
        rw [e] at h; cases h
    | some q =>
      rw [e] at h; cases h
      exact .tup (.inl (.inl h1)) (RDs.dp R h3 e)
  | .lst ds, _, _, .lst h1 _ h3, h => by
    rw [py] at h
    cases e : pys ds with
    | none =>
        rw [e] at h; cases h
    | some q =>
      rw [e] at h; cases h
      exact .lst (.inl (.inl h1)) (RDs.dp R h3 e)
  | .frz ds, _, _, .frz h1 h3, h => by
    rw [py] at h
    cases e : pys ds with
    | none =>
        rw [e] at h; cases h
    | some q =>
      rw [e] at h; cases h
      exact .lst (h1.sq R) (RDs.dp R h3 e)
  | .ref _, _, _, _, h => by rw [py] at h; cases h
  | .dct _ _, _, _, _, h => by rw [py] at h; cases h
  | .dctT _ _, _, _, _, h => by rw [py] at h; cases h
theorem RDs.dp {K : PySem.W.Frag} {W : Wd} (R : RS K W) : ∀ {ds : List D} {vs : List V} {q : List PyData}, RDs W vs ds → pys ds = some q → DpAll K W.H vs q
  | [], _, _, .nil, h => by cases h; exact .nil
  | d :: ds, _, _, .cons a r, h => by
    rw [pys] at h
    cases e : py d with
    | none =>
        rw [e] at h; cases h
    | some p =>
      rw [e] at h
      cases e2 : pys ds with
      | none => rw [e2] at h; cases h
      | some q =>
        rw [e2] at h; cases h
        exact .cons (RD.dp R a e) (RDs.dp R r e2)
end
/-- .. of a living list too -/
def pyS (S : Store) : D → Option PyData
  | .ref l => (asL S (.ref l)).bind fun xs => (pys xs).map PyData.list
  | d => py d
theorem RD.dpS {K : PySem.W.Frag} {W : Wd} (rs : RS K W) {d : D} {v : V} {p : PyData} (r : RD W v d) (h : pyS W.S d = some p) : Dp K W.H v p := by
  unfold pyS at h
  split at h
  · rename_i l
    cases e : asL W.S (.ref l) with
    | none =>
        rw [e] at h; cases h
    | some xs =>
      rw [e] at h
      cases e2 : pys xs with
      | none => rw [Option.bind_some, e2] at h; cases h
      | some q =>
        rw [Option.bind_some, e2] at h; cases h
        obtain ⟨a, vs, rfl, h1, h2⟩ := asL_of (K := K) rs r e
        exact .lst h1 (RDs.dp rs h2 e2)
  · exact RD.dp rs r h

/-! ### ==, != -/
def fEqB (n : Bool) : F2 := fun a b S k => match a, b with
  | .int i, .int j => k (.bl (n ^^ decide (i = j)))
  | .non, .non => k (.bl (n ^^ true))
  | .bl x, .bl y => k (.bl (n ^^ decide (x = y)))
  | .str x, .str y => k (.bl (n ^^ decide (x = y)))
  | a, b => match pyS S a, pyS S b with
    | some p, some q => SeqAt.shaped p = true ∧ SeqAt.shaped q = true ∧ k (.bl (n ^^ PyData.eqv p q))
    | _, _ => False
abbrev fEq : F2 := fEqB false
abbrev fNe : F2 := fEqB true
def rEqM (K : PySem.W.Frag) : R2 := fun x y H Q => rEq x y H Q ∨ rEqD K x y H Q
def rNeM (K : PySem.W.Frag) : R2 := fun x y H Q => rNe x y H Q ∨ rNeD K x y H Q
theorem op_eqM {X : Cx} (hu : X.A.units + 64 < cLine) : OpR X (compareOp .Eq) (rEqM X.K) := op_eq.or (op_eqD hu)
theorem op_neM {X : Cx} (hu : X.A.units + 64 < cLine) : OpR X (compareOp .NotEq) (rNeM X.K) := op_ne.or (op_neD hu)
theorem dec_inj {α β : Type} [DecidableEq α] [DecidableEq β] {f : α → β} (hf : ∀ x y, f x = f y → x = y) (x y : α) : decide (f x = f y) = decide (x = y) := by
  by_cases h : x = y
  · subst h; simp
  · rw [decide_eq_false h, decide_eq_false fun e => h (hf _ _ e)]
theorem eqB_scal {n : Bool} {W : Wd} {x y : V} {a b : D} {k : D → Prop} (ra : RD W x a) (rb : RD W y b) (m : fEqB n a b W.S k) :
    (scal x y = true ∧ k (.bl (n ^^ decide (x = y)))) ∨ ∃ p q, pyS W.S a = some p ∧ pyS W.S b = some q ∧ SeqAt.shaped p = true ∧ SeqAt.shaped q = true ∧ k (.bl (n ^^ PyData.eqv p q)) := by
  unfold fEqB at m
  split at m
  · cases ra; cases rb
    refine .inl ⟨rfl, ?_⟩
    rw [dec_inj (f := V.int) (fun _ _ e => by cases e; rfl)]
    exact m
  · cases ra; cases rb
    exact .inl ⟨rfl, m⟩
  · cases ra; cases rb
    refine .inl ⟨rfl, ?_⟩
    rw [dec_inj (f := V.bl) (fun _ _ e => by cases e; rfl)]
    exact m
  · cases ra; cases rb
    refine .inl ⟨rfl, ?_⟩
    rw [dec_inj (f := V.str) (fun _ _ e => by cases e; rfl)]
    exact m
  · split at m
    · rename_i p q e1 e2
      exact .inr ⟨p, q, e1, e2, m⟩
    · exact m.elim
theorem snd_eq {K : PySem.W.Frag} : Snd2 K fEq (rEqM K) := by
  intro W x y a b Q Qm rs ra rb k m
  rcases eqB_scal ra rb m with ⟨h1, h2⟩ | ⟨p, q, e1, e2, s1, s2, h⟩
  · exact .inl ⟨h1, k W _ _ (Le.refl W) rs (.bl _) (by rw [Bool.false_xor] at h2; exact h2)⟩
  · exact .inr ⟨p, q, ra.dpS rs e1, rb.dpS rs e2, s1, s2, k W _ _ (Le.refl W) rs (.bl _) (by rw [Bool.false_xor] at h; exact h)⟩
theorem snd_ne {K : PySem.W.Frag} : Snd2 K fNe (rNeM K) := by
  intro W x y a b Q Qm rs ra rb k m
  rcases eqB_scal ra rb m with ⟨h1, h2⟩ | ⟨p, q, e1, e2, s1, s2, h⟩
  · exact .inl ⟨h1, k W _ _ (Le.refl W) rs (.bl _) (by rw [Bool.true_xor] at h2; exact h2)⟩
  · exact .inr ⟨p, q, ra.dpS rs e1, rb.dpS rs e2, s1, s2, k W _ _ (Le.refl W) rs (.bl _) (by rw [Bool.true_xor] at h; exact h)⟩
/-! ### in, not in, of a list -/
def fInB (n : Bool) : F2 := fun a b S k => match py a, pyS S b with
  | some p, some (.list ds) => SeqAt.shaped p = true ∧ SeqAt.shaped (.list ds) = true ∧ k (.bl (n ^^ ds.any fun z => PyData.eqv z p))
  | _, _ => False
abbrev fIn : F2 := fInB false
abbrev fNotIn : F2 := fInB true
theorem inB_of {n : Bool} {a b : D} {S : Store} {k : D → Prop} (m : fInB n a b S k) : ∃ p ds, py a = some p ∧ pyS S b = some (.list ds) ∧ SeqAt.shaped p = true ∧ SeqAt.shaped (.list ds) = true ∧ k (.bl (n ^^ ds.any fun z => PyData.eqv z p)) := by
  unfold fInB at m
  split at m
  · rename_i p ds e1 e2
    exact ⟨p, ds, e1, e2, m⟩
  · exact m.elim
theorem snd_in {K : PySem.W.Frag} : Snd2 K fIn (rInD K) := by
  intro W x y a b Q Qm rs ra rb k m
  obtain ⟨p, ds, e1, e2, s1, s2, h⟩ := inB_of m
  exact ⟨p, ds, RD.dp rs ra e1, rb.dpS rs e2, s1, s2, k W _ _ (Le.refl W) rs (.bl _) (by rw [Bool.false_xor] at h; exact h)⟩
theorem snd_notIn {K : PySem.W.Frag} : Snd2 K fNotIn (rNotInD K) := by
  intro W x y a b Q Qm rs ra rb k m
  obtain ⟨p, ds, e1, e2, s1, s2, h⟩ := inB_of m
  exact ⟨p, ds, RD.dp rs ra e1, rb.dpS rs e2, s1, s2, k W _ _ (Le.refl W) rs (.bl _) (by rw [Bool.true_xor] at h; exact h)⟩
/-! ### is, is not, of None and of bools -/
def isN : D → Bool
  | .non => true
  | _ => false
def fIsB (n : Bool) : F2 := fun a b _ k => match b with
  | .non => k (.bl (n ^^ isN a))
  | .bl y => match a with
    | .bl x => k (.bl (n ^^ decide (x = y)))
    | _ => False
  | _ => False
abbrev fIs : F2 := fIsB false
abbrev fIsNot : F2 := fIsB true
def rIsM : R2 := fun x y H Q => rIsN x y H Q ∨ rIsB x y H Q
def rNotM : R2 := fun x y H Q => rNotN x y H Q ∨ rNotB x y H Q
theorem op_isM {X : Cx} : OpR X (compareOp .Is) rIsM := op_isN1.or op_isBl
theorem op_isNotM {X : Cx} : OpR X (compareOp .IsNot) rNotM := op_notN1.or op_notBl
theorem isN_of {W : Wd} {x : V} {a : D} (r : RD W x a) : decide (x = .non) = isN a := by
  cases r <;> rfl
theorem isB_of {n : Bool} {W : Wd} {x y : V} {a b : D} {k : D → Prop} (ra : RD W x a) (rb : RD W y b) (m : fIsB n a b W.S k) :
    (y = .non ∧ k (.bl (n ^^ decide (x = .non)))) ∨ ∃ i j : Bool, x = .bl i ∧ y = .bl j ∧ k (.bl (n ^^ decide (i = j))) := by
  unfold fIsB at m
  split at m
  · cases rb
    exact .inl ⟨rfl, by rw [isN_of ra]; exact m⟩
  · split at m
    · cases ra; cases rb
      exact .inr ⟨_, _, rfl, rfl, m⟩
    · exact m.elim
  · exact m.elim
theorem snd_is : Snd2 K fIs rIsM := by
  intro W x y a b Q Qm rs ra rb k m
  rcases isB_of ra rb m with ⟨h1, h2⟩ | ⟨i, j, rfl, rfl, h⟩
  · exact .inl ⟨h1, k W _ _ (Le.refl W) rs (.bl _) (by rw [Bool.false_xor] at h2; exact h2)⟩
  · exact .inr ⟨i, j, rfl, rfl, k W _ _ (Le.refl W) rs (.bl _) (by rw [Bool.false_xor] at h; exact h)⟩
theorem snd_isNot : Snd2 K fIsNot rNotM := by
  intro W x y a b Q Qm rs ra rb k m
  rcases isB_of ra rb m with ⟨h1, h2⟩ | ⟨i, j, rfl, rfl, h⟩
  · exact .inl ⟨h1, k W _ _ (Le.refl W) rs (.bl _) (by rw [Bool.true_xor] at h2; exact h2)⟩
  · exact .inr ⟨i, j, rfl, rfl, k W _ _ (Le.refl W) rs (.bl _) (by rw [Bool.true_xor] at h; exact h)⟩

section
variable {X : Cx} {a b c : Expr} {ma mb mc : Mr D} {pos : Pos} {es : List Expr} {ms : Mr (List D)}
/-! ### chains of comparisons -/
def mChain (f g : F2) (ma mb mc : Mr D) : Mr D := fun ρ S Q X => ma ρ S (fun x S1 => mb ρ S1 (fun y S2 => f x y S2 fun z => match z with
  | .bl true => mc ρ S2 (fun w S3 => g y w S3 fun d => Q d S3) X
  | .bl false => Q (.bl false) S2
  | _ => False) X) X
theorem chain_ok {op op' : CmpOp} {f g : F2} {r r' : R2} (hs : Snd2 K f r) (hs' : Snd2 K g r') {Wx : WX} {σ : St} {H : Hp} {Q : VK} (h : tE K (mChain f g ma mb mc) Wx σ H Q) : tChain r r' (tE K ma Wx) (tE K mb Wx) (tE K mc Wx) σ H Q := by
  obtain ⟨W, ρ, Qm, Xm, eH, rs, re, xr, k, m⟩ := h
  refine ⟨W, ρ, _, Xm, eH, rs, re, xr, fun W1 x d l1 rs1 r1 m1 => ?_, m⟩
  refine ⟨W1, ρ, _, Xm, rfl, rs1, re.mono l1, xr.mono l1, fun W2 y e l2 rs2 r2 m2 => ?_, m1⟩
  refine hs W2 x y d e _ (fun z S2 => match z with
    | .bl true => mc ρ S2 (fun w S3 => g e w S3 fun d => Qm d S3) Xm
    | .bl false => Qm (.bl false) S2
    | _ => False) rs2 (r1.mono l2) r2 (fun W3 z dz l3 rs3 r3 m3 => ?_) m2
  have l : Le W W3 := (l1.trans l2).trans l3
  cases r3 with
  | bl b =>
    refine ⟨b, rfl, ?_⟩
    cases b with
    | true =>
      exact ⟨W3, ρ, _, Xm, rfl, rs3, re.mono l, xr.mono l, fun W4 w dw l4 rs4 r4 m4 => hs' W4 y w e dw Q Qm rs4 (r2.mono (l3.trans l4)) r4 (k.mono (l.trans l4)) m4, m3⟩
    | false => exact k W3 _ _ l rs3 (.bl false) m3
  | _ => exact m3.elim
theorem je_chain {op op' : CmpOp} {f g : F2} {r r' : R2} (ha : JE X a ma) (hb : JE X b mb) (hc : JE X c mc) (ho : OpR X (compareOp op) r) (hs : Snd2 X.K f r) (ho' : OpR X (compareOp op') r') (hs' : Snd2 X.K g r') (hm : lastMarks [op, op'] [b, c] = false := by with_unfolding_all rfl) :
    JE X (.Compare a [op, op'] [b, c] pos) (mChain f g ma mb mc) := ⟨fun Wx tk => pe_imp (pe_chain ho ho' (ha.pe Wx tk) (hb.pe Wx tk) (hc.pe Wx tk) hm) fun _ _ _ h => chain_ok (op := op) (op' := op') hs hs' h⟩

/-! ### items, slices -/
def fIx : F2 := fun a b S k => match b with
  | .int i => match asQ S a with
    | some xs => match atI xs i with
      | some d => k d
      | none => False
    | none => False
  | _ => False
theorem atI_RDs {W : Wd} {vs : List V} {ds : List D} {i : Int} {d : D} (r : RDs W vs ds) (h : atI ds i = some d) : ∃ v, atI vs i = some v ∧ RD W v d := by
  unfold atI at h ⊢
  rw [r.length]
  cases e : ixN ds.length i with
  | none =>
      rw [e] at h; cases h
  | some j =>
    rw [e] at h
    exact r.get h
theorem snd_ix {K : PySem.W.Frag} : Snd2 K fIx (rIx K) := by
  intro W x y a b Q Qm rs ra rb k m
  unfold fIx at m
  split at m
  · cases rb
    split at m
    · rename_i xs e
      split at m
      · rename_i d e2
        obtain ⟨p, vs, rfl, h1, h2⟩ := asQ_of (K := K) rs ra e
        obtain ⟨v, h3, h4⟩ := atI_RDs h2 e2
        rcases h1 with h1 | h1
        · exact .inl ⟨p, vs, _, v, rfl, rfl, h1, h3, k W _ _ (Le.refl W) rs h4 m⟩
        · exact .inr (.inl ⟨p, vs, _, v, rfl, rfl, h1, h3, k W _ _ (Le.refl W) rs h4 m⟩)
      · exact m.elim
    · exact m.elim
  · exact m.elim
theorem je_ix (ha : JE X a ma) (hb : JE X b mb) (hs : PlainIx b := by exact fun _ _ => rfl) : JE X (.Subscript a b pos) (mOp fIx ma mb) :=
  ⟨fun Wx tk => pe_imp (pe_ix ix_seq (ha.pe Wx tk) (hb.pe Wx tk) hs) fun _ _ _ h => two snd_ix h⟩
end
end Mir
end

section
set_option Elab.async false
set_option linter.all false
set_option maxRecDepth 100000
set_option maxHeartbeats 2001000
/-! Statements. -/
namespace Mir
open PySem L2

/-- the wishes at a statement's ends -/
structure ME where
  nx : Env → Store → Prop
  rt : D → Store → Prop
  xc : Addr → List (Str × D) → Env → Store → Prop := fun _ _ _ _ => False
  bk : Env → Store → Prop := fun _ _ => False
  ct : Env → Store → Prop := fun _ _ => False
abbrev MS := ME → Env → Store → Prop
structure ER (K : PySem.W.Frag) (W : Wd) (D : Ends) (M : ME) (Wx : WX) : Prop where
  nx : ∀ (W' : Wd) (σ : St) (ρ : Env), Le W W' → RS K W' → RE W' σ ρ → M.nx ρ W'.S → D.nx σ W'.H
  rt : Cont K W RD D.rt M.rt
  xc : ∀ (W' : Wd) (σ : St) (ρ : Env), Le W W' → RS K W' → RE W' σ ρ → XR K W' σ Wx (fun C fs S => M.xc C fs ρ S)
  bk : ∀ (W' : Wd) (σ : St) (ρ : Env), Le W W' → RS K W' → RE W' σ ρ → M.bk ρ W'.S → D.bk σ W'.H
  ct : ∀ (W' : Wd) (σ : St) (ρ : Env), Le W W' → RS K W' → RE W' σ ρ → M.ct ρ W'.S → D.ct σ W'.H
theorem ER.mono {W W' : Wd} (e : Le W W') {D : Ends} {M : ME} {Wx : WX} (h : ER K W D M Wx) : ER K W' D M Wx :=
  ⟨fun W2 σ ρ l => h.nx W2 σ ρ (e.trans l), h.rt.mono e, fun W2 σ ρ l => h.xc W2 σ ρ (e.trans l), fun W2 σ ρ l => h.bk W2 σ ρ (e.trans l), fun W2 σ ρ l => h.ct W2 σ ρ (e.trans l)⟩
def tS (K : PySem.W.Frag) (m : MS) (Wx : WX) : TS := fun D σ H => ∃ (W : Wd) (ρ : Env) (M : ME), W.H = H ∧ RS K W ∧ RE W σ ρ ∧ ER K W D M Wx ∧ m M ρ W.S
structure JS (X : Cx) (st : Stmt) (m : MS) : Prop where
  ps : ∀ Wx, Takes X Wx → PS X st (tS X.K m Wx)
structure JB (X : Cx) (sts : List Stmt) (m : MS) : Prop where
  pb : ∀ Wx, Takes X Wx → PSs X sts (tS X.K m Wx)
theorem ps_imp {X : Cx} {st : Stmt} {t t' : TS} (h : PS X st t) (i : ∀ D σ H, t' D σ H → t D σ H) : PS X st t' := ⟨fun pins s σ H D I q => h.run pins s σ H D I (i _ _ _ q)⟩
theorem pss_imp {X : Cx} {st : List Stmt} {t t' : TS} (h : PSs X st t) (i : ∀ D σ H, t' D σ H → t D σ H) : PSs X st t' := ⟨fun pins s σ H D I q => h.run pins s σ H D I (i _ _ _ q)⟩
/-- what an expression in a statement may let out -/
abbrev ME.x (M : ME) (ρ : Env) : XC := fun C fs S => M.xc C fs ρ S

section
variable {X : Cx} {st : Stmt} {rest : List Stmt} {m u : MS} {e a b : Expr} {me ma mb : Mr D} {pos : Pos}
def mNext : MS := fun M ρ S => M.nx ρ S
def mSeq (m u : MS) : MS := fun M ρ S => m { M with nx := u M } ρ S
theorem jb_nil : JB X [] mNext := ⟨fun Wx _ => pss_imp pss_nil fun D σ H ⟨W, ρ, M, eH, rs, re, er, q⟩ => by subst eH; exact er.nx W σ ρ (Le.refl W) rs re q⟩
theorem jb_cons (h1 : JS X st m) (h2 : JB X rest u) : JB X (st :: rest) (mSeq m u) := ⟨fun Wx tk => pss_imp (pss_cons (h1.ps Wx tk) (h2.pb Wx tk)) fun D σ H ⟨W, ρ, M, eH, rs, re, er, q⟩ =>
  ⟨W, ρ, { M with nx := u M }, eH, rs, re, ⟨fun W' σ' ρ' l rs' re' q' => ⟨W', ρ', M, rfl, rs', re', er.mono l, q'⟩, er.rt, er.xc, er.bk, er.ct⟩, q⟩⟩
theorem jb_one (h1 : JS X st m) : JB X [st] m := ⟨fun Wx tk => pss_one (h1.ps Wx tk)⟩
def mBreak : MS := fun M ρ S => M.bk ρ S
def mContinue : MS := fun M ρ S => M.ct ρ S
theorem js_pass : JS X (.Pass pos) mNext := ⟨fun Wx _ => ps_imp ps_pass fun D σ H ⟨W, ρ, M, eH, rs, re, er, q⟩ => by subst eH; exact er.nx W σ ρ (Le.refl W) rs re q⟩
theorem js_break : JS X (.Break pos) mBreak := ⟨fun Wx _ => ps_imp ps_break fun D σ H ⟨W, ρ, M, eH, rs, re, er, q⟩ => by subst eH; exact er.bk W σ ρ (Le.refl W) rs re q⟩
theorem js_continue : JS X (.Continue pos) mContinue := ⟨fun Wx _ => ps_imp ps_continue fun D σ H ⟨W, ρ, M, eH, rs, re, er, q⟩ => by subst eH; exact er.ct W σ ρ (Le.refl W) rs re q⟩
theorem js_doc {x j pos pos'} : JS X (.Expr (.Constant (.str x) j pos) pos') mNext := ⟨fun Wx _ => ps_imp ps_doc fun D σ H ⟨W, ρ, M, eH, rs, re, er, q⟩ => by subst eH; exact er.nx W σ ρ (Le.refl W) rs re q⟩
/-- an expression, then what is made of its value -/
theorem ex_of {R : Wd → V → D → Prop} {Wx : WX} {σ : St} {W : Wd} {ρ : Env} {D : Ends} {M : ME} {Q : VK} {Qm : _root_.Mir.D → Store → Prop} (rs : RS K W) (re : RE W σ ρ) (er : ER K W D M Wx) (k : Cont K W RD Q Qm) (h : me ρ W.S Qm (M.x ρ)) : tE K me Wx σ W.H Q :=
  ⟨W, ρ, Qm, M.x ρ, rfl, rs, re, er.xc W σ ρ (Le.refl W) rs re, k, h⟩
def mDrop (me : Mr D) : MS := fun M ρ S => me ρ S (fun _ S1 => M.nx ρ S1) (M.x ρ)
theorem js_expr (he : JE X e me) (hs : swapsWith e none pos.line X.env = pure false := by rfl) : JS X (.Expr e pos) (mDrop me) := ⟨fun Wx tk => ps_imp (ps_expr (he.pe Wx tk) hs) fun D σ H ⟨W, ρ, M, eH, rs, re, er, q⟩ => by
  subst eH
  exact ex_of (R := RD) rs re er (fun W1 v d l rs1 _ q1 => er.nx W1 σ ρ l rs1 (re.mono l) q1) q⟩
def mRet (me : Mr D) : MS := fun M ρ S => me ρ S M.rt (M.x ρ)
theorem js_ret (he : JE X e me) : JS X (.Return (some e) pos) (mRet me) := ⟨fun Wx tk => ps_imp (ps_ret (he.pe Wx tk)) fun D σ H ⟨W, ρ, M, eH, rs, re, er, q⟩ => by
  subst eH
  exact ex_of (R := RD) rs re er er.rt q⟩
def mRetN : MS := fun M _ S => M.rt .non S
theorem js_retN : JS X (.Return none pos) mRetN := ⟨fun Wx _ => ps_imp ps_retN fun D σ H ⟨W, ρ, M, eH, rs, re, er, q⟩ => by subst eH; exact er.rt W _ _ (Le.refl W) rs .non q⟩
/-- a list that lives no more is handed on as a value -/
def mFrz (me : Mr D) : Mr D := fun ρ S Q X => me ρ S (fun d S1 => match d with
  | .ref l => match S1 l with
    | some (.lst xs) => Q (.lst xs) (del S1 l)
    | _ => False
  | d => Q d S1) X
theorem je_frz (h : JE X e me) : JE X e (mFrz me) := ⟨fun Wx tk => pe_imp (h.pe Wx tk) fun σ H Q ⟨W, ρ, Qm, Xm, eH, rs, re, xr, k, q⟩ => ⟨W, ρ, _, Xm, eH, rs, re, xr, fun W1 v d l rs1 r1 q1 => by
  cases r1 with
  | ref lab hl =>
    have q2 : match W1.S lab with
      | some (.lst xs) => Qm (.lst xs) (del W1.S lab)
      | _ => False := q1
    split at q2
    · rename_i xs e1
      exact k (W1.cut (del W1.S lab)) _ _ (l.trans (Le.cut (Sub.del _ _))) (rs1.cut (Sub.del _ _)) (RD.freeze rs1 e1) q2
    · exact q2.elim
  | tup h1 h2 h3 => exact k W1 _ _ l rs1 (.tup h1 h2 h3) q1
  | lst h1 h2 h3 => exact k W1 _ _ l rs1 (.lst h1 h2 h3) q1
  | frz h1 h3 => exact k W1 _ _ l rs1 (.frz h1 h3) q1
  | dct h1 h2 h3 h4 => exact k W1 _ _ l rs1 (.dct h1 h2 h3 h4) q1
  | dctT h1 h2 h3 h4 => exact k W1 _ _ l rs1 (.dctT h1 h2 h3 h4) q1
  | non => exact k W1 _ _ l rs1 .non q1
  | bl x => exact k W1 _ _ l rs1 (.bl x) q1
  | int x => exact k W1 _ _ l rs1 (.int x) q1
  | str x => exact k W1 _ _ l rs1 (.str x) q1, q⟩⟩
def mIte (t : Mr Bool) (m u : MS) : MS := fun M ρ S => t ρ S (fun b S1 => if b = true then m M ρ S1 else u M ρ S1) (M.x ρ)
theorem js_if {c : Expr} {x y : List Stmt} {t : Mr Bool} (hc : JT X c t) (ha : JB X x m) (hb : JB X y u) : JS X (.If c x y pos) (mIte t m u) := ⟨fun Wx tk => ps_imp (ps_if (hc.pt Wx tk) (ha.pb Wx tk) (hb.pb Wx tk)) fun D σ H ⟨W, ρ, M, eH, rs, re, er, q⟩ => by
  subst eH
  refine ⟨W, ρ, _, _, rfl, rs, re, er.xc W σ ρ (Le.refl W) rs re, fun W1 c d l rs1 r1 q1 => ?_, q⟩
  cases r1
  cases c
  · exact ⟨W1, ρ, M, rfl, rs1, re.mono l, er.mono l, q1⟩
  · exact ⟨W1, ρ, M, rfl, rs1, re.mono l, er.mono l, q1⟩⟩

/-! ### targets -/
abbrev MG := D → Env → Store → (Env → Store → Prop) → Prop
abbrev MGs := List D → Env → Store → (Env → Store → Prop) → Prop
def tGt (K : PySem.W.Frag) {α β : Type} (R : Wd → β → α → Prop) (g : α → Env → Store → (Env → Store → Prop) → Prop) : β → St → Hp → (St → Hp → Prop) → Prop := fun v σ H Q =>
  ∃ (W : Wd) (ρ : Env) (d : α) (Qm : Env → Store → Prop), W.H = H ∧ RS K W ∧ RE W σ ρ ∧ R W v d ∧ (∀ (W' : Wd) (σ' : St) (ρ' : Env), Le W W' → RS K W' → RE W' σ' ρ' → Qm ρ' W'.S → Q σ' W'.H) ∧ g d ρ W.S Qm
structure JG (X : Cx) (t : Expr) (g : MG) : Prop where
  pg : PG X t (tGt X.K RD g)
structure JGs (X : Cx) (ts : List Expr) (g : MGs) : Prop where
  pg : PGs X ts (tGt X.K RDs g)
theorem pg_imp {X : Cx} {e : Expr} {t t' : TG} (h : PG X e t) (i : ∀ v σ H Q, t' v σ H Q → t v σ H Q) : PG X e t' := ⟨fun pins s σ H v u Q I r q => h.run pins s σ H v u Q I r (i _ _ _ _ q)⟩
theorem pgs_imp {X : Cx} {e : List Expr} {t t' : TGs} (h : PGs X e t) (i : ∀ v σ H Q, t' v σ H Q → t v σ H Q) : PGs X e t' := ⟨fun pins s σ H v u Q I r q => h.run pins s σ H v u Q I r (i _ _ _ _ q)⟩
def gN (i : Nat) : MG := fun d ρ S Q => Q (ρ.set i (some d)) S
theorem jg_name {x : Str} {p : Pos} {i : Nat} (h : PG X (.Name x p) (gName i)) : JG X (.Name x p) (gN i) := ⟨pg_imp h fun v σ H Q ⟨W, ρ, d, Qm, eH, rs, re, r, k, q⟩ => by
  subst eH
  exact k W _ _ (Le.refl W) rs (re.set i r) q⟩
def gNi : MGs := fun ds ρ S Q => match ds with
  | [] => Q ρ S
  | _ => False
def gCo (g : MG) (gs : MGs) : MGs := fun ds ρ S Q => match ds with
  | d :: r => g d ρ S fun ρ1 S1 => gs r ρ1 S1 Q
  | [] => False
theorem jgs_nil : JGs X [] gNi := ⟨pgs_imp pgs_nil fun v σ H Q ⟨W, ρ, d, Qm, eH, rs, re, r, k, q⟩ => by
  subst eH
  cases r with
  | nil => exact ⟨rfl, k W _ _ (Le.refl W) rs re q⟩
  | cons _ _ => exact q.elim⟩
theorem jgs_cons {es : List Expr} {g : MG} {gs : MGs} (h1 : JG X e g) (h2 : JGs X es gs) (hs : (assignEach (e :: es) X.env).map (·.2) = assign e X.env :: (assignEach es X.env).map (·.2) := by rfl) : JGs X (e :: es) (gCo g gs) := ⟨pgs_imp (pgs_cons h1.pg h2.pg hs) fun v σ H Q ⟨W, ρ, d, Qm, eH, rs, re, r, k, q⟩ => by
  subst eH
  cases r with
  | nil => exact q.elim
  | cons r1 r2 =>
    exact ⟨_, _, rfl, W, ρ, _, _, rfl, rs, re, r1, fun W1 σ1 ρ1 l rs1 re1 q1 => ⟨W1, ρ1, _, Qm, rfl, rs1, re1, r2.mono l, fun W2 σ2 ρ2 l2 => k W2 σ2 ρ2 (l.trans l2), q1⟩, q⟩⟩
def gT (n : Nat) (gs : MGs) : MG := fun d ρ S Q => match d with
  | .tup ds => ds.length = n ∧ gs ds ρ S Q
  | _ => False
theorem jg_tup {es : List Expr} {k0 : Nat} {gs : MGs} {n : Nat} (hc : X.calm = true) (h : JGs X es gs) (hn : (assignEach es X.env).length = n := by rfl) (hst : (assignEach es X.env).findIdx? (·.1) = none := by rfl) : JG X (.Tuple es k0 pos) (gT n gs) := ⟨pg_imp (pg_tup hc h.pg hn hst) fun v σ H Q ⟨W, ρ, d, Qm, eH, rs, re, r, k, q⟩ => by
  subst eH
  unfold gT at q
  split at q
  · obtain ⟨p, vs, rfl, h1, h2⟩ := tup_of (K := X.K) r
    exact ⟨p, vs, rfl, h1, h2.length.trans q.1, W, ρ, _, Qm, rfl, rs, re, h2, k, q.2⟩
  · exact q.elim⟩
def mAsg (me : Mr D) (g : MG) : MS := fun M ρ S => me ρ S (fun d S1 => g d ρ S1 M.nx) (M.x ρ)
theorem asg_of {g : MG} {Wx : WX} {D : Ends} {σ : St} {H : Hp} (h : tS K (mAsg me g) Wx D σ H) : tAsg (tE K me Wx) (tGt K RD g) D σ H := by
  obtain ⟨W, ρ, M, eH, rs, re, er, q⟩ := h
  subst eH
  exact ex_of (R := RD) rs re er (fun W1 v d l rs1 r1 q1 => ⟨W1, ρ, d, M.nx, rfl, rs1, re.mono l, r1, fun W2 σ2 ρ2 l2 => er.nx W2 σ2 ρ2 (l.trans l2), q1⟩) q
theorem js_asg {t : Expr} {g : MG} (he : JE X e me) (hg : JG X t g) (hs : swapsWithSole [t] e pos.line X.env = pure false := by rfl) (hw : swappedStores [t] e X.env = pure none := by rfl) (h1 : (assignEach [t] X.env).map (·.2) = [assign t X.env] := by rfl) : JS X (.Assign [t] e pos) (mAsg me g) :=
  ⟨fun Wx tk => ps_imp (ps_asg (he.pe Wx tk) hg.pg hs hw h1) fun _ _ _ h => asg_of h⟩
/-- x = e -/
def mSet (i : Nat) (me : Mr D) : MS := fun M ρ S => me ρ S (fun d S1 => M.nx (ρ.set i (some d)) S1) (M.x ρ)
theorem set_of {i : Nat} {Wx : WX} {D : Ends} {σ : St} {H : Hp} (h : tS K (mSet i me) Wx D σ H) : tAsg (tE K me Wx) (gName i) D σ H := by
  obtain ⟨W, ρ, M, eH, rs, re, er, q⟩ := h
  subst eH
  exact ex_of (R := RD) rs re er (fun W1 v d l rs1 r1 q1 => er.nx W1 _ _ l rs1 ((re.mono l).set i r1) q1) q
theorem js_set {i : Nat} {x : Str} {p' : Pos} (hN : X.N.Nodup) (hi : X.N[i]? = some x) (hx : Loc X.env.scope x) (he : JE X e me) (hs : swapsWith e (some (.Name x p')) pos.line X.env = pure false := by rfl) (hf : X.fn x = true ∨ X.env.scope.names.lookup x = some .local := by first | exact .inl rfl | exact .inr rfl | assumption) :
    JS X (.Assign [.Name x p'] e pos) (mSet i me) := ⟨fun Wx tk => ps_imp (ps_set hN hi hx (he.pe Wx tk) hs hf) fun _ _ _ h => set_of h⟩
/-- o[i] = v, o a living list -/
def gIx (mo mi : Mr D) : MG := fun d ρ S Q => mo ρ S (fun o S1 => mi ρ S1 (fun i S2 => match o, i with
  | .ref l, .int j => match S2 l with
    | some (.lst xs) => match ixN xs.length j with
      | some k => Q ρ (put S2 l (.lst (xs.set k d)))
      | none => False
    | _ => False
  | _, _ => False) fun _ _ _ => False) fun _ _ _ => False
theorem xr0 {W : Wd} {σ : St} {Wx : WX} : XR K W σ Wx fun _ _ _ => False := fun _ _ _ _ _ _ _ _ _ _ q => q.elim
theorem jg_ix {o i : Expr} {mo mi : Mr D} (ho : JE X o mo) (hi : JE X i mi) (ha : ∀ v, assign (.Subscript o i pos) X.env v = (do let ov ← holding [v] (eval o X.env); let iv ← holding [v, ov] (eval i X.env); standAt pos; holding [v, ov, iv] (setItem ov iv v); release [v, ov, iv] []) := by intro _; rfl) : JG X (.Subscript o i pos) (gIx mo mi) := ⟨pg_imp (pg_sub (ho.pe _ takes0) (hi.pe _ takes0) set_list ha) fun v σ H Q ⟨W, ρ, d, Qm, eH, rs, re, r, k, q⟩ => by
  refine ⟨W, ρ, _, _, eH, rs, re, xr0, fun W1 x dx l1 rs1 r1 q1 => ?_, q⟩
  refine ⟨W1, ρ, _, _, rfl, rs1, re.mono l1, xr0, fun W2 y dy l2 rs2 r2 q2 => ?_, q1⟩
  split at q2
  · rename_i lab j
    split at q2
    · rename_i xs e1
      split at q2
      · rename_i kk e2
        cases r2
        have r1' := r1.mono l2
        cases r1' with
        | ref _ hl =>
          obtain ⟨vs, h1, h2⟩ := rs2.obj lab _ e1
          have l3 : Le W2 (W2.wr lab (.lst (vs.set kk v)) (.lst (xs.set kk d))) := Le.wr e1
          refine ⟨_, vs, j, kk, rfl, rfl, h1, by rw [h2.length]; exact e2, ?_⟩
          exact k (W2.wr lab (.lst (vs.set kk v)) (.lst (xs.set kk d))) σ ρ ((l1.trans l2).trans l3) (rs2.wr e1 ⟨_, upd_same, ((h2.mono l3).set ((r.mono (l1.trans l2)).mono l3) kk)⟩) (re.mono ((l1.trans l2).trans l3)) q2
      · exact q2.elim
    · exact q2.elim
  · exact q2.elim⟩
end
end Mir
end

section
set_option Elab.async false
set_option linter.all false
set_option maxRecDepth 100000
set_option maxHeartbeats 2001000
/-! Loops and comprehensions. -/
namespace Mir
open PySem L2

/-! ### targets of names -/
inductive Tg where
  | nm (i : Nat)
  | tp (ts : List Tg)
mutual
def Tg.v (K : PySem.W.Frag) : Tg → TG
  | .nm i => gName i
  | .tp ts => gTup K ts.length (Tg.vs K ts)
def Tg.vs (K : PySem.W.Frag) : List Tg → TGs
  | [] => gNil
  | t :: ts => gCons (Tg.v K t) (Tg.vs K ts)
end
mutual
def Tg.sl : Tg → List Nat
  | .nm i => [i]
  | .tp ts => Tg.sls ts
def Tg.sls : List Tg → List Nat
  | [] => []
  | t :: ts => Tg.sl t ++ Tg.sls ts
end
mutual
def Tg.b : Tg → D → Env → Option Env
  | .nm i, d, ρ => some (ρ.set i (some d))
  | .tp ts, .tup ds, ρ => Tg.bs ts ds ρ
  | .tp _, _, _ => none
def Tg.bs : List Tg → List D → Env → Option Env
  | [], [], ρ => some ρ
  | t :: ts, d :: ds, ρ => (Tg.b t d ρ).bind fun ρ1 => Tg.bs ts ds ρ1
  | _, _, _ => none
end
def Tg.m (t : Tg) : MG := fun d ρ S Q => match t.b d ρ with
  | some ρ1 => Q ρ1 S
  | none => False
/-- only the slots vs differ -/
def But (vs : List Nat) (σ τ : St) : Prop := σ.length = τ.length ∧ ∀ i, i ∉ vs → σ[i]? = τ[i]?
theorem But.refl (vs : List Nat) (σ : St) : But vs σ σ := ⟨rfl, fun _ _ => rfl⟩
theorem But.trans {vs : List Nat} {a b c : St} (h : But vs a b) (g : But vs b c) : But vs a c := ⟨h.1.trans g.1, fun i n => (h.2 i n).trans (g.2 i n)⟩
theorem But.set {vs : List Nat} (σ : St) {i : Nat} (o : Option V) (h : i ∈ vs) : But vs (σ.set i o) σ := ⟨List.length_set, fun j n => List.getElem?_set_ne fun e : i = j => n (by rw [← e]; exact h)⟩
theorem wipe_in {σ : St} {i : Nat} : ∀ {vs : List Nat}, i ∈ vs → i < σ.length → (wipe σ vs)[i]? = some none
  | [], h, _ => by cases h
  | v :: vs, h, hl => by
    unfold wipe
    by_cases e : v = i
    · subst e
      exact List.getElem?_set_self (by rw [wipe_length]; exact hl)
    · rw [List.getElem?_set_ne e]
      exact wipe_in ((List.mem_cons.mp h).resolve_left fun z => e z.symm) hl
theorem But.wipe {vs : List Nat} {σ τ : St} (h : But vs σ τ) : wipe σ vs = wipe τ vs := by
  refine List.ext_getElem? fun i => ?_
  by_cases hi : i ∈ vs
  · by_cases hl : i < σ.length
    · rw [wipe_in hi hl, wipe_in hi (by rw [← h.1]; exact hl)]
    · rw [List.getElem?_eq_none (by rw [wipe_length]; omega), List.getElem?_eq_none (by rw [wipe_length, ← h.1]; omega)]
  · rw [wipe_out hi, wipe_out hi]
    exact h.2 i hi
theorem But.of_wipe (vs : List Nat) (σ : St) : But vs (L2.wipe σ vs) σ := ⟨wipe_length _ _, fun i n => wipe_out n⟩
mutual
theorem Tg.ok {K : PySem.W.Frag} {W : Wd} {vs : List Nat} : ∀ {t : Tg} {d : D} {ρ ρ' : Env} {σ : St} {v : V}, (∀ i ∈ t.sl, i ∈ vs) → t.b d ρ = some ρ' → RD W v d → RE W σ ρ →
    ∃ σ', RE W σ' ρ' ∧ But vs σ' σ ∧ ∀ Q : St → Hp → Prop, Q σ' W.H → Tg.v K t v σ W.H Q
  | .nm i, d, ρ, ρ', σ, v, hs, h, r, re => by
    rw [Tg.b] at h
    cases h
    refine ⟨_, re.set i r, But.set σ _ (hs i (by rw [Tg.sl]; exact List.mem_singleton.mpr rfl)), fun Q q => ?_⟩
    rw [Tg.v]
    exact q
  | .tp ts, d, ρ, ρ', σ, v, hs, h, r, re => by
    cases d with
    | tup ds =>
      rw [Tg.b] at h
      obtain ⟨a, us, rfl, h1, h2⟩ := tup_of (K := K) r
      obtain ⟨σ', re', b, hl, k⟩ := Tg.oks (K := K) (vs := vs) (ts := ts) (fun i hi => hs i (by rw [Tg.sl]; exact hi)) h h2 re
      refine ⟨σ', re', b, fun Q q => ?_⟩
      rw [Tg.v]
      exact ⟨a, us, rfl, h1, h2.length.trans hl, k Q q⟩
    | _ => cases h
theorem Tg.oks {K : PySem.W.Frag} {W : Wd} {vs : List Nat} : ∀ {ts : List Tg} {ds : List D} {ρ ρ' : Env} {σ : St} {us : List V}, (∀ i ∈ Tg.sls ts, i ∈ vs) → Tg.bs ts ds ρ = some ρ' → RDs W us ds → RE W σ ρ →
    ∃ σ', RE W σ' ρ' ∧ But vs σ' σ ∧ ds.length = ts.length ∧ ∀ Q : St → Hp → Prop, Q σ' W.H → Tg.vs K ts us σ W.H Q
  | [], [], ρ, ρ', σ, us, hs, h, r, re => by
    rw [Tg.bs] at h
    cases h
    cases r
    refine ⟨σ, re, But.refl _ _, rfl, fun Q q => ?_⟩
    rw [Tg.vs]
    exact ⟨rfl, q⟩
  | [], _ :: _, ρ, ρ', σ, us, hs, h, r, re => by cases h
  | t :: ts, [], ρ, ρ', σ, us, hs, h, r, re => by cases h
  | t :: ts, d :: ds, ρ, ρ', σ, us, hs, h, r, re => by
    rw [Tg.bs] at h
    cases e : Tg.b t d ρ with
    | none =>
        rw [e] at h; cases h
    | some ρ1 =>
      rw [e] at h
      cases r with
      | cons r1 r2 =>
        obtain ⟨σ1, re1, b1, k1⟩ := Tg.ok (K := K) (vs := vs) (t := t) (fun i hi => hs i (by rw [Tg.sls]; exact List.mem_append_left _ hi)) e r1 re
        obtain ⟨σ2, re2, b2, hl, k2⟩ := Tg.oks (K := K) (vs := vs) (ts := ts) (fun i hi => hs i (by rw [Tg.sls]; exact List.mem_append_right _ hi)) h r2 re1
        refine ⟨σ2, re2, b2.trans b1, congrArg (· + 1) hl, fun Q q => ?_⟩
        rw [Tg.vs]
        exact ⟨_, _, rfl, k1 _ (k2 Q q)⟩
end
theorem jg_tg {X : Cx} {e : Expr} {t : Tg} (h : PG X e (t.v X.K)) : JG X e t.m := ⟨pg_imp h fun v σ H Q ⟨W, ρ, d, Qm, eH, rs, re, r, k, q⟩ => by
  subst eH
  unfold Tg.m at q
  split at q
  · rename_i ρ1 e1
    obtain ⟨σ', re', _, kk⟩ := Tg.ok (K := X.K) (vs := t.sl) (fun _ h => h) e1 r re
    exact kk Q (k W σ' ρ1 (Le.refl W) rs re' q)
  · exact q.elim⟩

/-! ### what is walked -/
abbrev Pk := List D × (Store → Prop)
def JR (K : PySem.W.Frag) (W : Wd) (J : It) (ds : List D) (Kp : Store → Prop) : Prop :=
  ∀ W' : Wd, Le W W' → RS K W' → Kp W'.S → (∀ (i : Nat) (d : D), ds[i]? = some d → J.go i W'.H ∧ ∀ x H', J.yld i W'.H x H' → ∃ W2 : Wd, W2.H = H' ∧ W2.S = W'.S ∧ Le W' W2 ∧ RS K W2 ∧ RD W2 x d) ∧ J.stop ds.length W'.H
def tI (K : PySem.W.Frag) (m : Mr Pk) (Wx : WX) : TI := fun σ H R => ∃ (W : Wd) (ρ : Env) (Qm : Pk → Store → Prop) (Xm : XC), W.H = H ∧ RS K W ∧ RE W σ ρ ∧ XR K W σ Wx Xm ∧
  (∀ (W' : Wd) (J : It) (p : Pk), Le W W' → RS K W' → JR K W' J p.1 p.2 → Qm p W'.S → R J W'.H) ∧ m ρ W.S Qm Xm
structure JI (X : Cx) (tg iter : Expr) (m : Mr Pk) : Prop where
  pi : ∀ Wx, Takes X Wx → PI X tg iter (tI X.K m Wx)
theorem pi_imp {X : Cx} {tg iter : Expr} {t t' : TI} (h : PI X tg iter t) (i : ∀ σ H R, t' σ H R → t σ H R) : PI X tg iter t' := ⟨fun pins s σ H R I q => h.run pins s σ H R I (i _ _ _ q)⟩
/-- a list, a tuple -/
def iSeq (K : PySem.W.Frag) (tl : TE) : TI := fun σ H R => tl σ H fun x H1 => (∃ a, x = .ref a ∧ (∃ xs, SqL K H1 a xs) ∧ R (Itl K a) H1) ∨ ∃ a, x = .ref a ∧ (∃ xs, SqT K H1 a xs) ∧ R (Itt K a) H1
theorem pi_seq {X : Cx} {tg l : Expr} {tl : TE} (hl : PE X l tl) : PI X tg l (iSeq X.K tl) := by
  constructor
  intro pins s σ H R I h
  refine thn (hl.run pins s σ H _ I h) ?_
  rintro v s1 ⟨x, H1, I1, r1, ⟨a, rfl, ⟨xs, hq⟩, q⟩ | ⟨a, rfl, ⟨xs, hq⟩, q⟩⟩
  · cases r1
    obtain ⟨its, _, p, _⟩ := I1.list hq
    refine wpAny_pyIter_list p.isList ⟨s1.heap.objs.size, [s1.heap.objs.size], _, _, H1, rfl, I1.kept (t' := s1.toks) (fun b o e => Heap.get?_push_of_some _ e), turn_list a _, ⟨_, Heap.get?_push_size _ rfl, rfl, rfl⟩, ?_, q⟩
    intro b hb
    rw [List.mem_singleton.mp hb]
    exact I1.fpOk (Nat.le_refl _)
        (I1.hok.fresh (Nat.le_refl _))
  · cases r1
    obtain ⟨its, _, p, _⟩ := I1.tuple hq
    refine wpAny_pyIter_tuple (show s1.heap.IsTuple a its.toArray from p) ⟨s1.heap.objs.size, [s1.heap.objs.size], _, _, H1, rfl, I1.kept (t' := s1.toks) (fun b o e => Heap.get?_push_of_some _ e), turn_tuple a _, ⟨_, Heap.get?_push_size _ rfl, rfl, rfl⟩, ?_, q⟩
    intro b hb
    rw [List.mem_singleton.mp hb]
    exact I1.fpOk (Nat.le_refl _)
        (I1.hok.fresh (Nat.le_refl _))
/-- the items that a datum gives, and what keeps them -/
def walkD (S : Store) : D → Option Pk
  | .lst xs => some (xs, fun _ => True)
  | .frz xs => some (xs, fun _ => True)
  | .tup xs => some (xs, fun _ => True)
  | .ref l => (S l).bind fun o => match o with
    | .lst xs => some (xs, fun T => T l = some (.lst xs))
    | _ => none
  | _ => none
def mWk (me : Mr D) : Mr Pk := fun ρ S Q X => me ρ S (fun d S1 => match walkD S1 d with
  | some p => Q p S1
  | none => False) X
theorem yes_of {W : Wd} (rs : RS K W) {x : V} {d : D} (r : RD W x d) : ∃ W2 : Wd, W2.H = W.H ∧ W2.S = W.S ∧ Le W W2 ∧ RS K W2 ∧ RD W2 x d := ⟨W, rfl, rfl, Le.refl W, rs, r⟩
theorem jr_list {K : PySem.W.Frag} {W : Wd} {a : Addr} {ds : List D} {Kp : Store → Prop} (h : ∀ W', Le W W' → RS K W' → Kp W'.S → ∃ vs, SqL K W'.H a vs ∧ RDs W' vs ds) : JR K W (Itl K a) ds Kp := by
  intro W' l rs kp
  obtain ⟨vs, h1, h2⟩ := h W' l rs kp
  refine ⟨fun i d e => ?_, ⟨vs, h1, by rw [h2.length]; exact Nat.le_refl _⟩⟩
  obtain ⟨v, e1, r⟩ := h2.get e
  refine ⟨⟨vs, v, h1, e1⟩, ?_⟩
  rintro x H' ⟨rfl, hx⟩
  have e2 := hx vs h1
  rw [e1] at e2
  cases e2
  exact yes_of rs r
theorem jr_tup {K : PySem.W.Frag} {W : Wd} {a : Addr} {ds : List D} (h : ∀ W', Le W W' → RS K W' → ∃ vs, SqT K W'.H a vs ∧ RDs W' vs ds) : JR K W (Itt K a) ds fun _ => True := by
  intro W' l rs _
  obtain ⟨vs, h1, h2⟩ := h W' l rs
  refine ⟨fun i d e => ?_, ⟨vs, h1, by rw [h2.length]; exact Nat.le_refl _⟩⟩
  obtain ⟨v, e1, r⟩ := h2.get e
  refine ⟨⟨vs, v, h1, e1⟩, ?_⟩
  rintro x H' ⟨rfl, hx⟩
  have e2 := hx vs h1
  rw [e1] at e2
  cases e2
  exact yes_of rs r

theorem walk_of {K : PySem.W.Frag} {W : Wd} (rs : RS K W) {v : V} {d : D} {p : Pk} (r : RD W v d) (h : walkD W.S d = some p) :
    (∃ a, v = .ref a ∧ (∃ xs, SqL K W.H a xs) ∧ JR K W (Itl K a) p.1 p.2) ∨ ∃ a, v = .ref a ∧ (∃ xs, SqT K W.H a xs) ∧ JR K W (Itt K a) p.1 p.2 := by
  cases r with
  | tup h1 h2 h3 =>
    cases h
    exact .inr ⟨_, rfl, ⟨_, .inl (.inl h1)⟩, jr_tup fun W' l _ => ⟨_, .inl (.inl (l.k _ _ h1 h2).1), h3.mono l⟩⟩
  | lst h1 h2 h3 =>
    cases h
    exact .inl ⟨_, rfl, ⟨_, .inl (.inl h1)⟩, jr_list fun W' l _ _ => ⟨_, .inl (.inl (l.k _ _ h1 h2).1), h3.mono l⟩⟩
  | frz h1 h3 =>
    cases h
    exact .inl ⟨_, rfl, ⟨_, h1.sq rs⟩, jr_list fun W' l rs' _ => ⟨_, (h1.mono l).sq rs', h3.mono l⟩⟩
  | ref l hl =>
    have h' : ((W.S l).bind fun o => match o with
      | .lst xs => some ((xs, fun T => T l = some (.lst xs)) : Pk)
      | _ => none) = some p := h
    cases e : W.S l with
    | none =>
        rw [e] at h'; cases h'
    | some o =>
      rw [e] at h'
      cases o with
      | lst xs =>
        cases h'
        obtain ⟨vs, h1, h2⟩ := rs.obj l _ e
        refine .inl ⟨_, rfl, ⟨vs, .inl (.inl h1)⟩, jr_list fun W' le rs' kp => ?_⟩
        obtain ⟨us, h3, h4⟩ := rs'.obj l _ kp
        rw [le.μ l hl] at h3
        exact ⟨us, .inl (.inl h3), h4⟩
      | _ => cases h'
  | _ => cases h
theorem ji_seq {X : Cx} {tg e : Expr} {me : Mr D} (h : JE X e me) : JI X tg e (mWk me) := ⟨fun Wx tk => pi_imp (pi_seq (h.pe Wx tk)) fun σ H R ⟨W, ρ, Qm, Xm, eH, rs, re, xr, k, q⟩ => by
  subst eH
  refine ⟨W, ρ, _, Xm, rfl, rs, re, xr, fun W1 v d l rs1 r1 q1 => ?_, q⟩
  split at q1
  · rename_i p e1
    rcases walk_of (K := X.K) rs1 r1 e1 with ⟨a, rfl, h1, jr⟩ | ⟨a, rfl, h1, jr⟩
    · exact .inl ⟨a, rfl, h1, k W1 _ p l rs1 jr q1⟩
    · exact .inr ⟨a, rfl, h1, k W1 _ p l rs1 jr q1⟩
  · exact q1.elim⟩
/-- range(n), range(a, b) -/
def rgD (lo : Int) (n : Nat) : List D := (List.range n).map fun i => D.int (lo + (i : Nat))
theorem jr_rng {W : Wd} {lo : Int} {n : Nat} : JR K W (Itr lo n) (rgD lo n) fun _ => True := by
  intro W' l rs _
  refine ⟨fun i d e => ?_, ?_⟩
  · unfold rgD at e
    rw [List.getElem?_map] at e
    have hi : i < n := by
      by_cases h : i < n
      · exact h
      · rw [List.getElem?_eq_none (by rw [List.length_range]; omega)] at e; cases e
    rw [List.getElem?_range hi] at e
    cases e
    refine ⟨hi, ?_⟩
    rintro x H' ⟨rfl, rfl⟩
    exact yes_of rs (.int _)
  · show n ≤ (rgD lo n).length
    unfold rgD
    rw [List.length_map,
        List.length_range]
    exact Nat.le_refl _
def mRg1 (ms : Mr (List D)) : Mr Pk := fun ρ S Q X => ms ρ S (fun ds S1 => match ds with
  | [.int n] => (-1000000 ≤ n ∧ n ≤ 1000000) ∧ Q (rgD 0 n.toNat, fun _ => True) S1
  | _ => False) X
def mRg2 (ms : Mr (List D)) : Mr Pk := fun ρ S Q X => ms ρ S (fun ds S1 => match ds with
  | [.int a, .int b] => (-1000000 ≤ a ∧ a ≤ 1000000 ∧ -1000000 ≤ b ∧ b ≤ 1000000) ∧ Q (rgD a (b - a).toNat, fun _ => True) S1
  | _ => False) X
theorem ji_rg1 {X : Cx} {tg a : Expr} {p pos : Pos} {ms : Mr (List D)} (ha : JA X [a] ms) (hm : X.mg "range" = none) (hg : Gl X "range" := by rfl) (hs : starEach [a] X.env = [(false, eval a X.env)] := by rfl) : JI X tg (.Call (.Name "range" p) [a] [] pos) (mRg1 ms) :=
  ⟨fun Wx tk => pi_imp (pi_range1 hg hm (ha.pa Wx tk) hs) fun σ H R ⟨W, ρ, Qm, Xm, eH, rs, re, xr, k, q⟩ => by
    subst eH
    refine ⟨W, ρ, _, Xm, rfl, rs, re, xr, fun W1 v d l rs1 r1 q1 => ?_, q⟩
    split at q1
    · cases r1 with
      | cons r2 r3 =>
        cases r2; cases r3
        exact ⟨_, rfl, by omega, by omega, k W1 _ _ l rs1 jr_rng q1.2⟩
    · exact q1.elim⟩
theorem ji_rg2 {X : Cx} {tg a b : Expr} {p pos : Pos} {ms : Mr (List D)} (ha : JA X [a, b] ms) (hm : X.mg "range" = none) (hg : Gl X "range" := by rfl) (hs : starEach [a, b] X.env = [(false, eval a X.env), (false, eval b X.env)] := by rfl) (hs2 : starEach [b] X.env = [(false, eval b X.env)] := by rfl) :
    JI X tg (.Call (.Name "range" p) [a, b] [] pos) (mRg2 ms) :=
  ⟨fun Wx tk => pi_imp (pi_range2 hg hm (ha.pa Wx tk) hs hs2) fun σ H R ⟨W, ρ, Qm, Xm, eH, rs, re, xr, k, q⟩ => by
    subst eH
    refine ⟨W, ρ, _, Xm, rfl, rs, re, xr, fun W1 v d l rs1 r1 q1 => ?_, q⟩
    split at q1
    · cases r1 with
      | cons r2 r3 => cases r3 with
        | cons r4 r5 =>
          cases r2; cases r4; cases r5
          exact ⟨_, _, rfl, ⟨by omega, by omega, by omega, by omega⟩, k W1 _ _ l rs1 jr_rng q1.2⟩
    · exact q1.elim⟩

/-! ### for -/
def goFor (g : MG) (body : MS) (Kp : Store → Prop) : List D → MS
  | [], M, ρ, S => Kp S ∧ M.nx ρ S
  | d :: ds, M, ρ, S => Kp S ∧ g d ρ S fun ρ1 S1 => body { M with nx := goFor g body Kp ds M, ct := goFor g body Kp ds M, bk := M.nx } ρ1 S1
def mFor (it : Mr Pk) (g : MG) (body : MS) : MS := fun M ρ S => it ρ S (fun p S1 => goFor g body p.2 p.1 M ρ S1) (M.x ρ)
theorem for_of {it : Mr Pk} {g : MG} {body : MS} {Wx : WX} {D : Ends} {σ : St} {H : Hp} (h : tS K (mFor it g body) Wx D σ H) : tFor (tI K it Wx) (tGt K RD g) (tS K body Wx) D σ H := by
  obtain ⟨W, ρ, M, eH, rs, re, er, q⟩ := h
  subst eH
  refine ⟨W, ρ, _, _, rfl, rs, re, er.xc W σ ρ (Le.refl W) rs re, fun W1 J p l rs1 jr q1 => ?_, q⟩
  refine ⟨fun i m σ H => m = p.1.length - i ∧ ∃ (W2 : Wd) (ρ2 : Env), W2.H = H ∧ Le W1 W2 ∧ RS K W2 ∧ RE W2 σ ρ2 ∧ i ≤ p.1.length ∧ goFor g body p.2 (p.1.drop i) M ρ2 W2.S, ⟨_, rfl, W1, ρ, rfl, Le.refl W1, rs1, re.mono l, Nat.zero_le _, q1⟩, ?_⟩
  rintro i m σ2 H2 ⟨rfl, W2, ρ2, rfl, l2, rs2, re2, hi, q2⟩
  by_cases hlt : i < p.1.length
  · rw [List.drop_eq_getElem_cons hlt] at q2
    obtain ⟨kp, q2⟩ := q2
    obtain ⟨hgo, hy⟩ := (jr W2 l2 rs2 kp).1 i _ (List.getElem?_eq_getElem hlt)
    refine .inr ⟨hgo, fun σ3 H3 => ∃ (W3 : Wd) (ρ3 : Env), W3.H = H3 ∧ Le W1 W3 ∧ RS K W3 ∧ RE W3 σ3 ρ3 ∧ goFor g body p.2 (p.1.drop (i + 1)) M ρ3 W3.S, ?_, ?_⟩
    · rintro σ3 H3 ⟨W3, ρ3, e3, l3, rs3, re3, q3⟩
      exact ⟨_, by omega, rfl, W3, ρ3, e3, l3, rs3, re3, hlt, q3⟩
    · intro x H3 hx
      obtain ⟨W3, rfl, eS, l3, rs3, r3⟩ := hy x H3 hx
      rw [← eS] at q2
      refine ⟨W3, ρ2, _, _, rfl, rs3, re2.mono l3, r3, fun W4 σ4 ρ4 l4 rs4 re4 q4 => ?_, q2⟩
      have lW : Le W W4 := ((l.trans l2).trans l3).trans l4
      have step : ∀ (W' : Wd) (σ' : St) (ρ' : Env), Le W4 W' → RS K W' → RE W' σ' ρ' → goFor g body p.2 (p.1.drop (i + 1)) M ρ' W'.S → ∃ (W3 : Wd) (ρ3 : Env), W3.H = W'.H ∧ Le W1 W3 ∧ RS K W3 ∧ RE W3 σ' ρ3 ∧ goFor g body p.2 (p.1.drop (i + 1)) M ρ3 W3.S :=
        fun W' σ' ρ' l' rs' re' q' => ⟨W', ρ', rfl, ((l2.trans l3).trans l4).trans l', rs', re', q'⟩
      exact ⟨W4, ρ4, { M with nx := goFor g body p.2 (p.1.drop (i + 1)) M, ct := goFor g body p.2 (p.1.drop (i + 1)) M, bk := M.nx }, rfl, rs4, re4, ⟨step, er.rt.mono lW, fun W' σ' ρ' l' => er.xc W' σ' ρ' (lW.trans l'), fun W' σ' ρ' l' => er.nx W' σ' ρ' (lW.trans l'), step⟩, q4⟩
  · have hz : i = p.1.length := by omega
    subst hz
    rw [List.drop_length] at q2
    obtain ⟨kp, q2⟩ := q2
    exact .inl ⟨(jr W2 l2 rs2 kp).2, er.nx W2 σ2 ρ2 (l.trans l2) rs2 re2 q2⟩
theorem js_for {X : Cx} {tg iter : Expr} {body : List Stmt} {it : Mr Pk} {g : MG} {mb : MS} {pos : Pos} (hp : PassesOwn (model X.prog X.w) X.A X.env X.xe) (hc : X.calm = true) (hi : JI X tg iter it) (hg : JG X tg g) (hb : JB X body mb)
    (hs : ∀ x, foldedSetIterable iter X.env x = pure x := by intro _; rfl) : JS X (.For tg iter body [] pos) (mFor it g mb) := ⟨fun Wx tk => ps_imp (ps_for hp hc (hi.pi Wx tk) hg.pg (hb.pb Wx tk) hs) fun _ _ _ h => for_of h⟩

/-! ### while -/
def goWh (t : Mr Bool) (b : MS) : Nat → MS
  | 0, _, _, _ => False
  | n + 1, M, ρ, S => t ρ S (fun c S1 => if c = true then b { M with nx := goWh t b n M, ct := goWh t b n M, bk := M.nx } ρ S1 else M.nx ρ S1) (M.x ρ)
def mWhile (t : Mr Bool) (b : MS) : MS := fun M ρ S => ∃ n, goWh t b n M ρ S
theorem while_of {t : Mr Bool} {b : MS} {Wx : WX} {D : Ends} {σ : St} {H : Hp} (h : tS K (mWhile t b) Wx D σ H) : tWhile (tT K t Wx) (tS K b Wx) D σ H := by
  obtain ⟨W, ρ, M, eH, rs, re, er, n, q⟩ := h
  subst eH
  refine ⟨fun m σ H => ∃ (W2 : Wd) (ρ2 : Env), W2.H = H ∧ Le W W2 ∧ RS K W2 ∧ RE W2 σ ρ2 ∧ goWh t b m M ρ2 W2.S, ⟨n, W, ρ, rfl, Le.refl W, rs, re, q⟩, ?_⟩
  rintro m σ2 H2 ⟨W2, ρ2, rfl, l2, rs2, re2, q2⟩
  cases m with
  | zero => exact q2.elim
  | succ m =>
    refine ⟨W2, ρ2, _, _, rfl, rs2, re2, er.xc W2 σ2 ρ2 l2 rs2 re2, fun W3 c d l3 rs3 r3 q3 => ?_, q2⟩
    cases r3
    have l : Le W W3 := l2.trans l3
    cases c with
    | false => exact er.nx W3 σ2 ρ2 l rs3 (re2.mono l3) q3
    | true =>
      refine ⟨fun σ4 H4 => ∃ (W4 : Wd) (ρ4 : Env), W4.H = H4 ∧ Le W W4 ∧ RS K W4 ∧ RE W4 σ4 ρ4 ∧ goWh t b m M ρ4 W4.S, fun σ4 H4 z => ⟨m, Nat.lt_succ_self _, z⟩, ?_⟩
      have step : ∀ (W' : Wd) (σ' : St) (ρ' : Env), Le W3 W' → RS K W' → RE W' σ' ρ' → goWh t b m M ρ' W'.S → ∃ (W4 : Wd) (ρ4 : Env), W4.H = W'.H ∧ Le W W4 ∧ RS K W4 ∧ RE W4 σ' ρ4 ∧ goWh t b m M ρ4 W4.S :=
        fun W' σ' ρ' l' rs' re' q' => ⟨W', ρ', rfl, l.trans l', rs', re', q'⟩
      exact ⟨W3, ρ2, { M with nx := goWh t b m M, ct := goWh t b m M, bk := M.nx }, rfl, rs3, re2.mono l3, ⟨step, er.rt.mono l, fun W' σ' ρ' l' => er.xc W' σ' ρ' (l.trans l'), fun W' σ' ρ' l' => er.nx W' σ' ρ' (l.trans l'), step⟩, q3⟩
theorem js_while {X : Cx} {c : Expr} {body : List Stmt} {t : Mr Bool} {mb : MS} {pos : Pos} (hp : PassesOwn (model X.prog X.w) X.A X.env X.xe) (hc : JT X c t) (hb : JB X body mb) : JS X (.While c body [] pos) (mWhile t mb) :=
  ⟨fun Wx tk => ps_imp (ps_while hp (hc.pt Wx tk) (hb.pb Wx tk)) fun _ _ _ h => while_of h⟩

/-! ### [e for t in it if c] -/
def wipM (ρ : Env) : List Nat → Env
  | [] => ρ
  | v :: vs => (wipM ρ vs).set v none
theorem RE.wip {W : Wd} {σ : St} {ρ : Env} (h : RE W σ ρ) : ∀ vs : List Nat, RE W (wipe σ vs) (wipM ρ vs)
  | [] => h
  | v :: vs => (h.wip vs).clr v
def goLc (t : Tg) (c : Mr Bool) (e : Mr D) (l : Nat) (Kp : Store → Prop) (ρ : Env) : List D → Store → (Store → Prop) → Prop
  | [], S, Q => Kp S ∧ Q S
  | d :: ds, S, Q => Kp S ∧ match t.b d ρ with
    | none => False
    | some ρ1 => c ρ1 S (fun b S1 => if b = true then e ρ1 S1 (fun y S2 => match S2 l with
        | some (.lst acc) => small (acc.length + 1) ∧ goLc t c e l Kp ρ ds (put S2 l (.lst (acc ++ [y]))) Q
        | _ => False) fun _ _ _ => False else goLc t c e l Kp ρ ds S1 Q) fun _ _ _ => False
def mLc (it : Mr Pk) (t : Tg) (vs : List Nat) (c : Mr Bool) (e : Mr D) : Mr D := fun ρ S Q X => it ρ S (fun p S1 => ∀ l, S1 l = none → goLc t c e l p.2 (wipM ρ vs) p.1 (put S1 l (.lst [])) fun S2 => match S2 l with
  | some (.lst acc) => Q (.lst acc) (del S2 l)
  | _ => False) X
theorem lc_of {K : PySem.W.Frag} {it : Mr Pk} {t : Tg} {vs : List Nat} {c : Mr Bool} {e : Mr D} {Wx : WX} {σ : St} {H : Hp} {Q : VK} (hv : ∀ i ∈ t.sl, i ∈ vs) (h : tE K (mLc it t vs c e) Wx σ H Q) :
    tLc (tI K it Wx) (t.v K) (tT K c fun _ _ _ _ => False) (tE K e fun _ _ _ _ => False) vs σ H Q := by
  obtain ⟨W, ρ, Qm, Xm, eH, rs, re, xr, k, q⟩ := h
  subst eH
  refine ⟨W, ρ, _, Xm, rfl, rs, re, xr, fun W1 J p l1 rs1 jr q1 => ?_, q⟩
  intro D0 hD
  have q2 := q1 _ rs1.fresh
  -- the list lives while it grows
  have lW : Le W1 (W1.new D0 (.lst []) (.lst [])) := Le.new rs1 hD
  have rsN : RS K (W1.new D0 (.lst []) (.lst [])) := rs1.new hD ⟨[], upd_same, .nil⟩
  refine ⟨fun i m H => m = p.1.length - i ∧ ∃ W2 : Wd, W2.H = H ∧ Le (W1.new D0 (.lst []) (.lst [])) W2 ∧ RS K W2 ∧ i ≤ p.1.length ∧ goLc t c e W1.n p.2 (wipM ρ vs) (p.1.drop i) W2.S (fun S2 => match S2 W1.n with
    | some (.lst acc) => Qm (.lst acc) (del S2 W1.n)
    | _ => False), ⟨_, rfl, _, rfl, Le.refl _, rsN, Nat.zero_le _, q2⟩, ?_⟩
  rintro i m H2 ⟨rfl, W2, rfl, l2, rs2, hi, q3⟩
  have hμ : W2.μ W1.n = D0 := (l2.μ W1.n (Nat.lt_succ_self _)).trans new_lab
  by_cases hlt : i < p.1.length
  · rw [List.drop_eq_getElem_cons hlt] at q3
    obtain ⟨kp, q3⟩ := q3
    obtain ⟨hgo, hy⟩ := (jr W2 (lW.trans l2) rs2 kp).1 i _ (List.getElem?_eq_getElem hlt)
    refine .inr ⟨hgo, fun H3 => ∃ W3 : Wd, W3.H = H3 ∧ Le (W1.new D0 (.lst []) (.lst [])) W3 ∧ RS K W3 ∧ goLc t c e W1.n p.2 (wipM ρ vs) (p.1.drop (i + 1)) W3.S (fun S2 => match S2 W1.n with
      | some (.lst acc) => Qm (.lst acc) (del S2 W1.n)
      | _ => False), ?_, ?_⟩
    · rintro H3 ⟨W3, e3, l3, rs3, q4⟩
      exact ⟨_, by omega, rfl, W3, e3, l3, rs3, hlt, q4⟩
    · intro x H3 hx
      obtain ⟨W3, rfl, eS, l3, rs3, r3⟩ := hy x H3 hx
      rw [← eS] at q3
      have reW : RE W3 (wipe σ vs) (wipM ρ vs) := (re.mono (((l1.trans lW).trans l2).trans l3)).wip vs
      split at q3
      · exact q3.elim
      · rename_i ρ1 eb
        obtain ⟨σ1, re1, but1, kk⟩ := Tg.ok (K := K) (vs := vs) hv eb r3 reW
        refine kk _ ⟨But.wipe (but1.trans (But.of_wipe vs σ)), ?_⟩
        refine ⟨W3, ρ1, _, _, rfl, rs3, re1, xr0, fun W4 bb bd l4 rs4 r4 q5 => ?_, q3⟩
        cases r4
        cases bb with
        | false => exact ⟨W4, rfl, (l2.trans l3).trans l4, rs4, q5⟩
        | true =>
          refine ⟨W4, ρ1, _, _, rfl, rs4, re1.mono l4, xr0, fun W5 y dy l5 rs5 r5 q6 => ?_, q5⟩
          split at q6
          · rename_i acc ea
            obtain ⟨us, h1, h2⟩ := rs5.obj _ _ ea
            have l25 : Le (W1.new D0 (.lst []) (.lst [])) W5 := ((l2.trans l3).trans l4).trans l5
            have hμ5 : W5.μ W1.n = D0 := (l25.μ W1.n (Nat.lt_succ_self _)).trans new_lab
            have lw : Le W5 (W5.wr W1.n (.lst (us ++ [y])) (.lst (acc ++ [dy]))) := Le.wr ea
            rw [hμ5] at h1
            refine ⟨us, h1, small_lt (n := us.length) (by rw [h2.length]; unfold small at *; omega), W5.wr W1.n (.lst (us ++ [y])) (.lst (acc ++ [dy])), ?_, l25.trans lw, rs5.wr ea ⟨_, upd_same, (h2.mono lw).app (.cons (r5.mono lw) .nil)⟩, q6.2⟩
            show upd W5.H (W5.μ W1.n) _ = _
            rw [hμ5]
          · exact q6.elim
  · have hz : i = p.1.length := by omega
    subst hz
    rw [List.drop_length] at q3
    obtain ⟨kp, q3⟩ := q3
    refine .inl ⟨(jr W2 (lW.trans l2) rs2 kp).2, ?_⟩
    split at q3
    · rename_i acc ea
      have r := RD.freeze rs2 ea
      rw [hμ] at r
      exact k (W2.cut (del W2.S W1.n)) _ _ ((l1.trans (lW.trans l2)).trans (Le.cut (Sub.del _ _))) (rs2.cut (Sub.del _ _)) r q3
    · exact q3.elim
end Mir
end

section
set_option Elab.async false
set_option linter.all false
set_option maxRecDepth 100000
set_option maxHeartbeats 2001000
/-! Comprehensions as expressions; what the language brings. -/
namespace Mir
open PySem L2

section
variable {X : Cx} {a b c : Expr} {ma mb mc : Mr D} {pos : Pos} {es : List Expr} {ms : Mr (List D)}
/-! ### comprehensions -/
structure JC (X : Cx) (ifs : List Expr) (m : Mr Bool) : Prop where
  pc : ∀ Wx, Takes X Wx → PTs X ifs (tT X.K m Wx)
def mYes : Mr Bool := fun _ S Q _ => Q true S
theorem pts_imp {X : Cx} {es : List Expr} {t t' : TT} (h : PTs X es t) (i : ∀ σ H Q, t' σ H Q → t σ H Q) : PTs X es t' := ⟨fun pins s σ H Q I q => h.run pins s σ H Q I (i _ _ _ q)⟩
theorem jc_nil : JC X [] mYes := ⟨fun Wx _ => pts_imp pts_nil fun σ H Q ⟨W, ρ, Qm, Xm, eH, rs, re, xr, k, q⟩ => by
  subst eH
  exact k W _ _ (Le.refl W) rs rfl q⟩
theorem jc_one {t : Mr Bool} (h : JT X c t) : JC X [c] t := ⟨fun Wx tk => pts_one (h.pt Wx tk)⟩
abbrev Blk (X : Cx) (scope : Scope) (P : Cx → Prop) : Prop := ∀ (s : Shared) (H : Hp) (C : Addr) (cl : List (Str × Addr)) (fp : List Addr), P (X.blk s H scope (compEnvC scope cl C X.env) fp)
theorem je_lc {tg iter elt : Expr} {ifs : List Expr} {scope : Scope} {own : List (Str × Nat)} {it : Mr Pk} {t : Tg} {tc : Mr Bool} {me : Mr D} (hc : X.calm = true) (hN : X.N.Nodup) (hi : JI X tg iter it) (ok : BlkOk X.N X.env.scope scope own)
    (hv : ∀ i ∈ t.sl, i ∈ own.map (·.2)) (hg : Blk X scope fun Y => PG Y tg (t.v X.K)) (ht : Blk X scope fun Y => JC Y ifs tc) (he : Blk X scope fun Y => JE Y elt me) (hs : ∀ x, foldedSetIterable iter X.env x = pure x := by intro _; rfl) :
    JE X (.ListComp elt [⟨tg, iter, ifs, 0⟩] scope pos) (mLc it t (own.map (·.2)) tc me) :=
  ⟨fun Wx tk => pe_imp (pe_lc hc hN (hi.pi Wx tk) ok hg (fun s H C cl fp => (ht s H C cl fp).pc _ takes0) (fun s H C cl fp => (he s H C cl fp).pe _ takes0) hs) fun _ _ _ h => lc_of hv h⟩
theorem js_setLc {i : Nat} {y : Str} {py : Pos} {tg iter elt : Expr} {ifs : List Expr} {scope : Scope} {own : List (Str × Nat)} {it : Mr Pk} {t : Tg} {tc : Mr Bool} {me : Mr D} {spos : Pos} (hc : X.calm = true) (hN : X.N.Nodup) (hy : X.N[i]? = some y) (hyl : X.env.scope.names.lookup y = some .local)
    (hsw : swapsWith (.ListComp elt [⟨tg, iter, ifs, 0⟩] scope pos) (some (.Name y py)) spos.line X.env = pure true) (hi : JI X tg iter it) (ok : BlkOk X.N X.env.scope scope own)
    (hv : ∀ i ∈ t.sl, i ∈ own.map (·.2)) (hg : Blk X scope fun Y => PG Y tg (t.v X.K)) (ht : Blk X scope fun Y => JC Y ifs tc) (he : Blk X scope fun Y => JE Y elt me) (hs : ∀ x, foldedSetIterable iter X.env x = pure x := by intro _; rfl) :
    JS X (.Assign [.Name y py] (.ListComp elt [⟨tg, iter, ifs, 0⟩] scope pos) spos) (mSet i (mLc it t (own.map (·.2)) tc me)) :=
  ⟨fun Wx tk => ps_imp (ps_setLc hc hN hy hyl hsw (hi.pi Wx tk) ok hg (fun s H C cl fp => (ht s H C cl fp).pc _ takes0) (fun s H C cl fp => (he s H C cl fp).pe _ takes0) hs) fun D σ H h => lc_of (Q := fun x H1 => gName i x σ H1 D.nx) hv (set_of h)⟩

/-! ### len, list, tuple -/
def fLen : FA := fun ds S k => match ds with
  | [d] => match asQ S d with
    | some xs => k (.int xs.length)
    | none => False
  | _ => False
theorem snd_len {K : PySem.W.Frag} : SndA K fLen (fun xs H Q => ∃ p ys, xs = [.ref p] ∧ (SqL K H p ys ∨ SqT K H p ys) ∧ Q (.int ys.length) H) := by
  intro W xs ds Q Qm rs r k m
  unfold fLen at m
  split at m
  · split at m
    · rename_i e
      cases r with
      | cons r1 r2 =>
        cases r2
        obtain ⟨p, vs, rfl, h1, h2⟩ := asQ_of (K := K) rs r1 e
        refine ⟨p, vs, rfl, h1, ?_⟩
        rw [h2.length]
        exact k W _ _ (Le.refl W) rs (.int _) m
    · exact m.elim
  · exact m.elim
def fList : FA := fun ds S k => match ds with
  | [d] => match asQ S d with
    | some xs => k (.lst xs)
    | none => False
  | _ => False
theorem snd_list {K : PySem.W.Frag} : SndA K fList (fun xs H Q => ∃ p ys, xs = [.ref p] ∧ (SqL K H p ys ∨ SqT K H p ys) ∧ ∀ l, H l = none → Q (.ref l) (upd H l (.lst ys))) := by
  intro W xs ds Q Qm rs r k m
  unfold fList at m
  split at m
  · split at m
    · rename_i e
      cases r with
      | cons r1 r2 =>
        cases r2
        obtain ⟨p, vs, rfl, h1, h2⟩ := asQ_of (K := K) rs r1 e
        exact ⟨p, vs, rfl, h1, k.lst rs h2 m⟩
    · exact m.elim
  · exact m.elim
/-- list(x) that will change -/
def mListN (ms : Mr (List D)) : Mr D := fun ρ S Q X => ms ρ S (fun ds S1 => match ds with
  | [d] => match asQ S1 d with
    | some xs => ∀ l, S1 l = none → Q (.ref l) (put S1 l (.lst xs))
    | none => False
  | _ => False) X
theorem je_listN {p : Pos} (hm : X.mg "list" = none) (ha : JA X [a] ms) (hg : Gl X "list" := by rfl) (he : starEach [a] X.env = (false, eval a X.env) :: starEach [] X.env := by rfl) (hpl : (backTo pos (starEach [] X.env)).any (·.1) = false := by rfl) :
    JE X (.Call (.Name "list" p) [a] [] pos) (mListN ms) :=
  ⟨fun Wx tk => pe_imp (pe_callTy call_list_of hg hm (by decide +kernel) (ha.pa Wx tk) (by decide) (by decide) he hpl) fun σ H Q ⟨W, ρ, Qm, Xm, eH, rs, re, xr, k, q⟩ => by
    subst eH
    refine ⟨W, ρ, _, Xm, rfl, rs, re, xr, fun W1 xs ds l1 rs1 r1 m => ?_, q⟩
    split at m
    · split at m
      · rename_i ys e
        cases r1 with
        | cons r1 r2 =>
          cases r2
          obtain ⟨p, vs, rfl, h1, h2⟩ := asQ_of (K := X.K) rs1 r1 e
          exact ⟨p, vs, rfl, h1, (k.mono l1).new (o := .lst ys) rs1 (fun p hp => ⟨vs, upd_same, h2.mono (Le.new rs1 hp)⟩) m⟩
      · exact m.elim
    · exact m.elim⟩
def fTuple : FA := fun ds S k => match ds with
  | [.tup xs] => k (.tup xs)
  | [d] => match asL S d with
    | some xs => k (.tup xs)
    | none => False
  | _ => False
theorem snd_tuple {K : PySem.W.Frag} : SndA K fTuple (fun xs H Q => ∃ p ys, xs = [.ref p] ∧ ((SqL K H p ys ∧ ∀ l, H l = none → Q (.ref l) (upd H l (.tup ys))) ∨ (SqT K H p ys ∧ Q (.ref p) H))) := by
  intro W xs ds Q Qm rs r k m
  unfold fTuple at m
  split at m
  · cases r with
    | cons r1 r2 =>
      cases r2
      obtain ⟨p, vs, rfl, h1, h2⟩ := tup_of (K := K) r1
      exact ⟨p, vs, rfl, .inr ⟨h1, k W _ _ (Le.refl W) rs r1 m⟩⟩
  · split at m
    · rename_i e
      cases r with
      | cons r1 r2 =>
        cases r2
        obtain ⟨p, vs, rfl, h1, h2⟩ := asL_of (K := K) rs r1 e
        exact ⟨p, vs, rfl, .inl ⟨h1, k.tup rs h2 m⟩⟩
    · exact m.elim
  · exact m.elim

/-! ### ints: abs, min, max, int, sum -/
def fAbs : FA := fun ds _ k => match ds with
  | [.int i] => k (.int (if i < 0 then -i else i))
  | _ => False
theorem snd_abs : SndA K fAbs (fun xs H Q => ∃ i, xs = [.int i] ∧ Q (.int (if i < 0 then -i else i)) H) := by
  intro W xs ds Q Qm rs r k m
  unfold fAbs at m
  split at m
  · cases r with
    | cons r1 r2 =>
      cases r1; cases r2
      exact ⟨_, rfl, k W _ _ (Le.refl W) rs (.int _) m⟩
  · exact m.elim
def fTwo (g : Int → Int → Int) : FA := fun ds _ k => match ds with
  | [.int i, .int j] => k (.int (g i j))
  | _ => False
abbrev fMax2 : FA := fTwo fun i j => if j > i then j else i
abbrev fMin2 : FA := fTwo fun i j => if j < i then j else i
theorem snd_two {g : Int → Int → Int} : SndA K (fTwo g) (fun xs H Q => ∃ i j, xs = [.int i, .int j] ∧ Q (.int (g i j)) H) := by
  intro W xs ds Q Qm rs r k m
  unfold fTwo at m
  split at m
  · cases r with
    | cons r1 r2 => cases r2 with
      | cons r3 r4 =>
        cases r1; cases r3; cases r4
        exact ⟨_, _, rfl, k W _ _ (Le.refl W) rs (.int _) m⟩
  · exact m.elim
def fInt1 : FA := fun ds _ k => match ds with
  | [.int i] => k (.int i)
  | [.bl b] => k (.int (if b then 1 else 0))
  | _ => False
theorem snd_int1 : SndA K fInt1 (fun xs H Q => (∃ i, xs = [.int i] ∧ Q (.int i) H) ∨ ∃ k, xs = [.bl k] ∧ Q (.int (if k then 1 else 0)) H) := by
  intro W xs ds Q Qm rs r k m
  unfold fInt1 at m
  split at m
  · cases r with
    | cons r1 r2 =>
      cases r1; cases r2
      exact .inl ⟨_, rfl, k W _ _ (Le.refl W) rs (.int _) m⟩
  · cases r with
    | cons r1 r2 =>
      cases r1; cases r2
      exact .inr ⟨_, rfl, k W _ _ (Le.refl W) rs (.int _) m⟩
  · exact m.elim
def fSum : FA := fun ds S k => match ds with
  | [d] => ∃ ns : List Int, asL S d = some (ns.map D.int) ∧ k (.int ns.sum)
  | _ => False
theorem snd_sum {K : PySem.W.Frag} : SndA K fSum (rSum K) := by
  intro W xs ds Q Qm rs r k m
  unfold fSum at m
  split at m
  · obtain ⟨ns, e, m⟩ := m
    cases r with
    | cons r1 r2 =>
      cases r2
      obtain ⟨p, vs, rfl, h1, h2⟩ := asL_of (K := K) rs r1 e
      rw [RDs.of_ints h2] at h1
      exact ⟨p, ns, rfl, h1, k W _ _ (Le.refl W) rs (.int _) m⟩
  · exact m.elim

/-! ### sorted, of data -/
def pyO (d : D) : PyData := (py d).getD .none
def sortD (ds : List D) : List D := ds.mergeSort (PySem.W.dataLe false pyO)
theorem pys_all : ∀ {ds : List D} {ps : List PyData}, pys ds = some ps → ds.map pyO = ps ∧ ∀ d ∈ ds, py d = some (pyO d)
  | [], _, h => by cases h; exact ⟨rfl, fun _ h => by cases h⟩
  | d :: ds, ps, h => by
    rw [pys] at h
    cases e : py d with
    | none =>
        rw [e] at h; cases h
    | some p =>
      rw [e] at h
      cases e2 : pys ds with
      | none => rw [e2] at h; cases h
      | some q =>
        rw [e2] at h; cases h
        obtain ⟨h1, h2⟩ := pys_all e2
        have ep : pyO d = p := by unfold pyO; rw [e]; rfl
        refine ⟨by rw [List.map_cons, ep, h1], fun x hx => ?_⟩
        rcases List.mem_cons.mp
            hx with rfl | hx
        · rw [ep]; exact e
        · exact h2 x hx
def fSorted : FA := fun ds S k => match ds with
  | [d] => ∃ xs ps, asL S d = some xs ∧ pys xs = some ps ∧ PySem.W.AllAlike ps ∧ PySem.W.Sortable ps ∧ (∀ p ∈ ps, p.depth ≤ 60) ∧ k (.lst (sortD xs))
  | _ => False
/-- by pairs of a value and its datum -/
def rSortD (K : PySem.W.Frag) : List V → Hp → VK → Prop := fun vs H Q => ∃ (a : Addr) (zs : List (V × PyData)), vs = [.ref a] ∧ SqL K H a (zs.map (·.1)) ∧ (∀ z ∈ zs, Dp K H z.1 z.2) ∧ PySem.W.AllAlike (zs.map (·.2)) ∧ PySem.W.Sortable (zs.map (·.2)) ∧ (∀ z ∈ zs, z.2.depth ≤ 60) ∧
  ∀ p, H p = none → Q (.ref p) (upd H p (.lst ((zs.mergeSort (PySem.W.dataLe false (·.2))).map (·.1))))
theorem each_vals {zs : List (V × PyData)} : ∀ {us : List Value}, Vals (zs.map (·.1)) us → PySem.W.EachIs (fun (u : Value) (z : V × PyData) => RelV z.1 u) us zs := by
  induction zs with
  | nil => intro us r; cases r; exact .nil
  | cons z zs ih =>
    intro us r
    cases r with
    | cons r1 r2 => exact .cons r1 (ih r2)
theorem vals_each {us : List Value} {zs : List (V × PyData)} (h : PySem.W.EachIs (fun (u : Value) (z : V × PyData) => RelV z.1 u) us zs) : Vals (zs.map (·.1)) us := by
  induction h with
  | nil => exact .nil
  | cons r _ ih => exact .cons r ih
theorem each_read {X : Cx} {pins : List (Addr × Obj)} {σ : St} {H : Hp} {s : Shared} (I : Inv X pins σ H s) : ∀ {us : List Value} {zs : List (V × PyData)}, PySem.W.EachIs (fun (u : Value) (z : V × PyData) => RelV z.1 u) us zs → (∀ z ∈ zs, Dp X.K H z.1 z.2) →
    PySem.W.EachIs (fun (u : Value) (z : V × PyData) => ∃ as, Reads s.heap u z.2 as) us zs
  | _, _, .nil, _ => .nil
  | _, _, .cons r t, h => .cons (Dp.reads I _ _ _ (h _ List.mem_cons_self) r) (each_read I t fun z hz => h z (List.mem_cons_of_mem _ hz))
theorem call_sortD {X : Cx} (hu : X.A.units + 64 < cLine) : CallR X (.builtin "sorted") (rSortD X.K) := by
  rintro pins s σ H vs us Q I r ⟨a, zs, rfl, hs, hd, hal, hk, hdp, q⟩
  obtain ⟨its, rv, hl, hz⟩ :=
      I.list hs
  rw [Vals.ref1 r]
  have e := each_vals rv
  refine PySem.W.sorted_data hl.isList e (each_read I e hd) hal hk (by rw [List.length_map] at hz; exact hz) (fun z hz => by have := hdp z hz; omega) fun out ho eo => ?_
  obtain ⟨ep, he'⟩ :=
      PyProof.Rows.sortedAll_at s.heap its out.toArray
  have hlen : ((zs.mergeSort (PySem.W.dataLe false (·.2))).map (·.1)).length ≤ sizeLine := by
    rw [List.length_map, (List.mergeSort_perm zs _).length_eq]
    rw [List.length_map] at hz
    exact hz
  exact ⟨.ref _, upd H (s.heap.objs.size + 1) (.lst ((zs.mergeSort (PySem.W.dataLe false (·.2))).map (·.1))), I.laid (t' := s.toks) (fun _ _ => PyProof.Rows.sortedAll_old) (Nat.le_succ _) ⟨hlen, out, ep, vals_each eo, he'⟩, rfl, q _ (I.hok.fresh (Nat.le_succ _))⟩
theorem RDs.zip {W : Wd} : ∀ {vs : List V} {ds : List D}, RDs W vs ds → ∀ z ∈ vs.zip ds, RD W z.1 z.2
  | _, _, .nil, _, h =>
      by cases h
  | _, _, .cons a r, z, h => by
    rcases List.mem_cons.mp
        h with rfl | h
    · exact a
    · exact r.zip z h
theorem RDs.unzip {W : Wd} : ∀ (zs : List (V × D)), (∀ z ∈ zs, RD W z.1 z.2) → RDs W (zs.map (·.1)) (zs.map (·.2))
  | [], _ => .nil
  | z :: zs, h => .cons (h z List.mem_cons_self) (RDs.unzip zs fun x hx => h x (List.mem_cons_of_mem _ hx))
theorem snd_sorted {K : PySem.W.Frag} : SndA K fSorted (rSortD K) := by
  intro W xs ds Q Qm rs r k m
  unfold fSorted at m
  split at m
  · obtain ⟨ys, ps, e, ep, h1, h2, h3, m⟩ := m
    cases r with
    | cons r1 r2 =>
      cases r2
      obtain ⟨p, vs, rfl, hs, hr⟩ := asL_of (K := K) rs r1 e
      obtain ⟨e1, e2⟩ := pys_all ep
      have hl := hr.length
      have m1 : (vs.zip ys).map (·.1) = vs := List.map_fst_zip (by omega)
      have m2 : (vs.zip ys).map (·.2) = ys := List.map_snd_zip (by omega)
      have f1 : ((vs.zip ys).map fun z => (z.1, pyO z.2)).map (·.1) = vs := by rw [List.map_map]; exact m1
      have f2 : ((vs.zip ys).map fun z => (z.1, pyO z.2)).map (·.2) = ps := by
        rw [List.map_map, ← e1, ← m2, List.map_map, m2]; rfl
      have srt : ((vs.zip ys).map fun z => (z.1, pyO z.2)).mergeSort (PySem.W.dataLe false (·.2)) = ((vs.zip ys).mergeSort (PySem.W.dataLe false fun z => pyO z.2)).map fun z => (z.1, pyO z.2) := (List.map_mergeSort (f := fun z : V × D => (z.1, pyO z.2)) (r := PySem.W.dataLe false fun z : V × D => pyO z.2) (s := PySem.W.dataLe false (·.2)) (l := vs.zip ys) fun _ _ _ _ => rfl).symm
      have srt2 : ((vs.zip ys).mergeSort (PySem.W.dataLe false fun z => pyO z.2)).map (·.2) = sortD ys := by
        have z := List.map_mergeSort (r := PySem.W.dataLe false fun z : V × D => pyO z.2) (s := PySem.W.dataLe false pyO) (f := (·.2)) (l := vs.zip ys) fun _ _ _ _ => rfl
        rw [z, m2]; rfl
      refine ⟨p, (vs.zip ys).map fun z => (z.1, pyO z.2), rfl, by rw [f1]; exact hs, fun z hz => ?_, by rw [f2]; exact h1, by rw [f2]; exact h2, fun z hz => h3 _ (by rw [← f2]; exact List.mem_map_of_mem hz), ?_⟩
      · obtain ⟨x, hx, rfl⟩ := List.mem_map.mp hz
        exact RD.dp rs (hr.zip x hx) (e2 _ (by rw [← m2]; exact List.mem_map_of_mem hx))
      · rw [srt, List.map_map]
        refine k.lst rs ?_ m
        rw [← srt2]
        exact RDs.unzip _ fun z hz => hr.zip z ((List.mergeSort_perm _ _).mem_iff.mp hz)
  · exact m.elim
end
end Mir
end

section
set_option Elab.async false
set_option linter.all false
set_option maxRecDepth 100000
set_option maxHeartbeats 2001000
/-! Defs and their calls. -/
namespace Mir
open PySem L2

/-- the mirror of a def -/
abbrev MF := List D → Store → (D → Store → Prop) → XC → Prop
/-- a def's end may forget what lives -/
def cutQ {α : Type} (Q : α → Store → Prop) : α → Store → Prop := fun d S => ∃ T, Sub T S ∧ Q d T
def cutX (X : XC) : XC := fun C fs S => ∃ T, Sub T S ∧ X C fs T
def startD (k : Nat) (ds : List D) : Env := ds.map some ++ List.replicate k none
/-- n parameters, k further names -/
def mFn (n k : Nat) (mb : MS) : MF := fun ds S Q X => ds.length = n ∧ mb { nx := fun _ S' => cutQ Q .non S', rt := cutQ Q, xc := fun C fs _ S' => cutX X C fs S' } (startD k ds) S
/-- what is wished of an error that leaves a def -/
def XE (K : PySem.W.Frag) (W : Wd) (E : XK) (X : XC) : Prop :=
  ∀ (W' : Wd) (C dd : Addr) (fv : List (Str × V)) (fs : List (Str × D)), Le W W' → RS K W' → W'.H dd = some (.xd fv) → ¬ Live W' dd → RK W' fv fs → X C fs W'.S → E (.ref C) (some dd) W'.H
def spF (K : PySem.W.Frag) (F : MF) : Sp := fun vs H Q E => ∃ (W : Wd) (ds : List D) (Qm : D → Store → Prop) (Xm : XC), W.H = H ∧ RS K W ∧ RDs W vs ds ∧ Cont K W RD Q Qm ∧ XE K W E Xm ∧ F ds W.S Qm Xm
/-- the def at f, called with n positional arguments and the keywords ks, does as F says -/
def FnG (P : Program) (w : World) (K : PySem.W.Frag) (mg : Str → Option Value) (base : Heap) (k : Nat) (f : Addr) (n : Nat) (ks : List Str) (F : MF) : Prop :=
  ∀ (A : Around) (outer : List PySem.Env) (s : Shared) (H : Hp) (us : List Value) (vs : List V) (Q : VK) (E : XK), A.guards = some [] → Room k A → Env0 P w K mg base A outer s H → Vals vs us → us.length = n + ks.length → spF K F vs H Q E →
    codeAny (model P w) A (.call (.ref f) ⟨us.take n, ks.zip (us.drop n)⟩) (CR (L2.CX P w) outer P w H s Q E) s
end Mir
namespace Mir
open PySem L2
section
variable {P : Program} {w : World} {K :
    PySem.W.Frag} {mg : Str → Option Value} {base : Heap}
theorem FnG.up {j k : Nat} {f : Addr} {n : Nat} {ks : List Str} {F : MF} (h : FnG P w K mg base j f n ks F) (l : j ≤ k) : FnG P w K mg base k f n ks F := fun A outer s H us vs Q E g r => h A outer s H us vs Q E g (r.mono l)
/-- a weaker mirror -/
theorem FnG.imp {k : Nat} {f : Addr} {n : Nat} {ks : List Str} {F G : MF} (h : FnG P w K mg base k f n ks F) (i : ∀ ds S Q X, G ds S Q X → F ds S Q X) : FnG P w K mg base k f n ks G := fun A outer s H us vs Q E g r e0 rv hl ⟨W, ds, Qm, Xm, a, b, c, d, e, m⟩ =>
  h A outer s H us vs Q E g r e0 rv hl ⟨W, ds, Qm, Xm, a, b, c, d, e, i _ _ _ _ m⟩
theorem start_re {W : Wd} {N : List Str} {vs : List V} {ds : List D} {k : Nat} (r : RDs W vs ds) (hk : N.length = vs.length + k) : RE W (L2.start N vs) (startD k ds) := by
  unfold L2.start startD
  have hl := r.length
  refine ⟨by rw [List.length_append, List.length_append, List.length_map, List.length_map, List.length_replicate, List.length_replicate]; omega, fun i d e => ?_⟩
  by_cases hi : i < ds.length
  · rw [List.getElem?_append_left (by rw [List.length_map]; exact hi), List.getElem?_map] at e
    cases e2 : ds[i]? with
    | none => rw [e2] at e; cases e
    | some d' =>
      rw [e2] at e; cases e
      obtain ⟨v, e3, r3⟩ := r.get e2
      exact ⟨v, by rw [List.getElem?_append_left (by rw [List.length_map]; omega), List.getElem?_map, e3]; rfl, r3⟩
  · rw [List.getElem?_append_right (by rw [List.length_map]; omega), List.getElem?_replicate] at e
    split at e <;> cases e
/-- a body's reading, from the def's mirror -/
theorem body_of {n k : Nat} {mb : MS} {N : List Str} {vs : List V} {ds : List D} {W : Wd} {Q : VK} {E : XK} {Qm : D → Store → Prop} {Xm : XC} (rs : RS K W) (r : RDs W vs ds) (hk : N.length = n + k) (kq : Cont K W RD Q Qm) (kx : XE K W E Xm) (m : mFn n k mb ds W.S Qm Xm) :
    tS K mb (fun cls d _ H => E cls d H) { nx := fun _ H' => Q .non H', rt := Q } (L2.start N vs) W.H := by
  obtain ⟨hn, m⟩ := m
  refine ⟨W, startD k ds, { nx := fun _ S' => cutQ Qm .non S', rt := cutQ Qm, xc := fun C fs _ S' => cutX Xm C fs S' }, rfl, rs, start_re r (by rw [r.length, hn]; exact hk), ⟨fun W' σ ρ l rs' re' q => ?_, fun W' v d l rs' r' q => ?_, fun W' σ ρ l rs' re' => ?_, fun _ _ _ _ _ _ q => q.elim, fun _ _ _ _ _ _ q => q.elim⟩, m⟩
  · obtain ⟨T, h, q⟩ := q
    exact kq (W'.cut T) _ _ (l.trans (Le.cut h)) (rs'.cut h) .non q
  · obtain ⟨T, h, q⟩ := q
    exact kq (W'.cut T) _ _ (l.trans (Le.cut h)) (rs'.cut h) (r'.mono (Le.cut h)) q
  · intro W2 C dd fv fs l2 rs2 e1 e2 r2 q
    obtain ⟨T, h, q⟩ := q
    exact kx (W2.cut T) C dd fv fs ((l.trans l2).trans (Le.cut h)) (rs2.cut h) e1 (fun z => e2 (live_cut h z)) (r2.mono (Le.cut h)) q
/-- a body's context -/
abbrev BCx (P : Program) (w : World) (K : PySem.W.Frag) (mg : Str → Option Value) (base : Heap) (N : List Str) (qual : Str) (st : Stmt) (f : Addr) (cdv : Value) (A : Around) (outer : List PySem.Env) (s : Shared) (H : Hp) (E : XK) : Cx := cxOf (L2.CX P w) P w K mg base N qual (defScope st) f cdv A outer s H E
/-- every body with room for k calls, nothing guarded, goes as mb says -/
def BodyOk (P : Program) (w : World) (K : PySem.W.Frag) (mg : Str → Option Value) (base : Heap) (N : List Str) (qual : Str) (st : Stmt) (f : Addr) (k : Nat) (mb : MS) : Prop :=
  ∀ (cdv : Value) (A : Around) (outer : List PySem.Env) (s : Shared) (H : Hp) (E : XK), (BCx P w K mg base N qual st f cdv A outer s H E).A.guards = some [] → Room k (BCx P w K mg base N qual st f cdv A outer s H E).A → JB (BCx P w K mg base N qual st f cdv A outer s H E) (defBody st) mb
/-- by position -/
theorem fnG {x qual : Str} {st : Stmt} {f : Addr} {fd : FuncData} {N ps : List Str} {k n c : Nat} {mb : MS} (F : Fun K x qual st f fd) (S : FnScope N ps (defScope st)) (hn : ps.length = n) (hc : N.length = n + c)
    (hb : ∀ (kV doc pm : Value) (an : Option Addr) (cdv ct : Value) (us : List Value), us.length = ps.length → bindArgs (PySem.W.fnOf x qual (defArgs st) (defBody st) (defScope st) .none kV doc pm an cdv ct) ⟨us, []⟩ = pure (ps.zip us))
    (B : BodyOk P w K mg base N qual st f k mb) : FnG P w K mg base (k + 1) f n [] (mFn n c mb) := by
  obtain ⟨oc, od, kV, doc, pm, an, cdv, ct, osl, rfl, lk, hcd⟩ :=
      F.ex
  rintro A outer s H us vs Q E hg hr e0 rv hl ⟨W, ds, Qm, Xm, rfl, rs, rd, kq, kx, m⟩
  have hl' : us.length = n := by simpa using hl
  rw [List.take_of_length_le (Nat.le_of_eq hl'), List.zip_nil_left]
  refine StX.run_bnd lk hcd S hr e0 (G := fun xs H2 => xs = vs ∧ H2 = W.H) (fun A' Ex Q' h => ?_) fun s2 H2 xs ⟨ex, eH⟩ hr' => ?_
  · rw [hb kV doc pm an cdv ct us (by rw [hl', hn])]
    exact wpAny_pure (h s W.H vs us e0 Un.refl rfl (fun _ _ z => z) rv (by rw [rv.length, hl', hn]) ⟨rfl, rfl⟩)
  · subst ex eH
    exact ⟨_, (B cdv A outer s2 W.H E hg hr').pb _ (takes_of rfl rfl rfl rfl), body_of rs rd hc kq kx m⟩
/-- by position and by keywords: sel tells where each parameter's value stands in the call -/
def pick {α : Type} (sel : List Nat) (l : List α) : List α := sel.filterMap fun i => l[i]?
theorem RDs.pick {W : Wd} {vs : List V} {ds : List D} (r : RDs W vs ds) : ∀ sel : List Nat, RDs W (Mir.pick sel vs) (Mir.pick sel ds)
  | [] => .nil
  | i :: sel => by
    unfold Mir.pick
    rw [List.filterMap_cons, List.filterMap_cons]
    cases e : ds[i]? with
    | none =>
      have e2 : vs[i]? = none := List.getElem?_eq_none (by rw [r.length]; exact List.getElem?_eq_none_iff.mp e)
      rw [e2]
      exact RDs.pick r sel
    | some d =>
      obtain ⟨v, e2, r2⟩ := r.get e
      rw [e2]
      exact .cons r2 (RDs.pick r sel)
theorem vals_pick {vs : List V} {us : List Value} (r : Vals vs us) : ∀ sel : List Nat, Vals (pick sel vs) (pick sel us)
  | [] => .nil
  | i :: sel => by
    unfold pick
    rw [List.filterMap_cons, List.filterMap_cons]
    cases e : vs[i]? with
    | none =>
      have e2 : us[i]? = none := r.none_of e
      rw [e2]
      exact vals_pick r sel
    | some d =>
      obtain ⟨v, e2, r2⟩ := r.get e
      rw [e2]
      exact .cons r2 (vals_pick r sel)
def mKw (sel : List Nat) (F : MF) : MF := fun ds S Q X => F (pick sel ds) S Q X
theorem fnGK {x qual : Str} {st : Stmt} {f : Addr} {fd : FuncData} {N ps ks : List Str} {k n m c : Nat} {mb : MS} {sel : List Nat} (F : Fun K x qual st f fd) (S : FnScope N ps (defScope st)) (hn : ps.length = n) (hc : N.length = n + c)
    (hb : ∀ (kV doc pm : Value) (an : Option Addr) (cdv ct : Value) (us : List Value), us.length = m + ks.length → (pick sel us).length = ps.length ∧ bindArgs (PySem.W.fnOf x qual (defArgs st) (defBody st) (defScope st) .none kV doc pm an cdv ct) ⟨us.take m, ks.zip (us.drop m)⟩ = pure (ps.zip (pick sel us)))
    (B : BodyOk P w K mg base N qual st f k mb) : FnG P w K mg base (k + 1) f m ks (mKw sel (mFn n c mb)) := by
  obtain ⟨oc, od, kV, doc, pm, an, cdv, ct, osl, rfl, lk, hcd⟩ :=
      F.ex
  rintro A outer s H us vs Q E hg hr e0 rv hl ⟨W, ds, Qm, Xm, rfl, rs, rd, kq, kx, m⟩
  obtain ⟨h1, h2⟩ := hb kV doc pm an cdv ct us hl
  refine StX.run_bnd lk hcd S hr e0 (G := fun xs H2 => xs = pick sel vs ∧ H2 = W.H) (fun A' Ex Q' h => ?_) fun s2 H2 xs ⟨ex, eH⟩ hr' => ?_
  · rw [h2]
    exact wpAny_pure (h s W.H (pick sel vs) (pick sel us) e0 Un.refl rfl (fun _ _ z => z) (vals_pick rv sel) (by rw [(vals_pick rv sel).length, h1]) ⟨rfl, rfl⟩)
  · subst ex eH
    exact ⟨_, (B cdv A outer s2 W.H E hg hr').pb _ (takes_of rfl rfl rfl rfl), body_of rs (rd.pick sel) hc kq kx m⟩
/-- def f(a, .., *v) -/
def mStar (n : Nat) (F : MF) : MF := fun ds S Q X => small ds.length ∧ F (ds.take n ++ [.tup (ds.drop n)]) S Q X
theorem fnGS {x qual : Str} {st : Stmt} {f : Addr} {fd : FuncData} {N ps : List Str} {pv : Str} {k n m c : Nat} {mb : MS} (F : Fun K x qual st f fd) (S : FnScope N (ps ++ [pv]) (defScope st)) (hn : ps.length = n) (hm : n ≤ m) (hc : N.length = n + 1 + c)
    (hb : ∀ (kV doc pm : Value) (an : Option Addr) (cdv ct : Value) (us rest : List Value), us.length = ps.length → bindArgs (PySem.W.fnOf x qual (defArgs st) (defBody st) (defScope st) .none kV doc pm an cdv ct) ⟨us ++ rest, []⟩ = (newTuple rest >>= fun t => pure (ps.zip us ++ [(pv, t)])))
    (B : BodyOk P w K mg base N qual st f k mb) : FnG P w K mg base (k + 1) f m [] (mStar n (mFn (n + 1) c mb)) := by
  obtain ⟨oc, od, kV, doc, pm, an, cdv, ct, osl, rfl, lk, hcd⟩ :=
      F.ex
  rintro A outer s H us vs Q E hg hr e0 rv hl ⟨W, ds, Qm, Xm, rfl, rs, rd, kq, kx, hz, mm⟩
  have hl' : us.length = m := by simpa using hl
  rw [List.take_of_length_le (Nat.le_of_eq hl'), List.zip_nil_left]
  have hf : W.H s.heap.objs.size = none := e0.hok.fresh (Nat.le_refl _)
  have hv : vs.length = m := by rw [rv.length, hl']
  have htk : (us.take n).length = ps.length := by rw [List.length_take, hl', hn]; omega
  have hdl : (vs.drop n).length ≤ sizeLine := small_line (by rw [List.length_drop]; have := rd.length; unfold small at *; omega)
  refine StX.run_bnd lk hcd S hr e0 (G := fun xs H2 => ∃ p, W.H p = none ∧ xs = vs.take n ++ [V.ref p] ∧ H2 = upd W.H p (.tup (vs.drop n))) (fun A' Ex Q' h => ?_) fun s2 H2 xs ⟨p, hp, ex, eH⟩ hr' => ?_
  · have e := hb kV doc pm an cdv ct (us.take n) (us.drop n) htk
    rw [List.take_append_drop] at e
    rw [e]
    refine wpAny_bind (wpAny_newTuple (wpAny_pure ?_) (by rw [← (rv.drop n).length]; exact hdl))
    have un := StX.un_laid (fs := frs outer) (s := s) (o := ({ cls := .type "tuple", data := .seq (us.drop n).toArray } : Obj)) (u := .tup (vs.drop n)) hf
    have z := h { s with heap := s.heap.push { cls := .type "tuple", data := .seq (us.drop n).toArray } } (upd W.H s.heap.objs.size (.tup (vs.drop n))) (vs.take n ++ [V.ref s.heap.objs.size]) (us.take n ++ [Value.ref s.heap.objs.size])
      (StX.env0_laid e0 ⟨hdl, _, rv.drop n, ⟨_, Heap.get?_push_size _ rfl, rfl, _, rfl⟩⟩) un rfl (fun e s' => StX.cxUp outer s W.H _ _ E e s' un (fun b o q => Heap.get?_push_of_some _ q) rfl) ((rv.take n).append (.cons rfl .nil))
      (by rw [List.length_append, List.length_append, List.length_take, hv, hn]; simp; omega) ⟨_, hf, rfl, rfl⟩
    rw [List.zip_append htk.symm] at z
    exact z
  · subst ex eH
    have le : Le W (W.add p (.tup (vs.drop n))) := Le.add rs hp
    refine ⟨_, (B cdv A outer s2 _ E hg hr').pb _ (takes_of rfl rfl rfl rfl), body_of (W := W.add p (.tup (vs.drop n))) (rs.add hp) (((rd.mono le).take n).app (.cons (new_tup rs hp (rd.drop n)) .nil)) hc (kq.mono le) (fun W' C dd fv fs l => kx W' C dd fv fs (le.trans l)) mm⟩
end
end Mir
end

section
set_option Elab.async false
set_option linter.all false
set_option maxRecDepth 100000
set_option maxHeartbeats 2001000
/-! Calls, methods, dicts. -/
namespace Mir
open PySem L2

section
variable {X : Cx} {a b c e o i : Expr} {ma mb mc me mo mi : Mr D} {pos p : Pos} {es : List Expr} {ms mk : Mr (List D)} {k n : Nat} {f : Addr} {F : MF} {x : Str}
/-! ### calls -/
def mCall (n : Nat) (F : MF) (ms : Mr (List D)) : Mr D := fun ρ S Q X => ms ρ S (fun ds S1 => ds.length = n ∧ F ds S1 Q X) X
/-- the callee runs -/
theorem runG {ks : List Str} {pins : List (Addr × Obj)} {σ : St} {H : Hp} {s : Shared} {us : List Value} {vs : List V} {Wx : WX} {Q : VK} (G : FnG X.prog X.w X.K X.mg X.base k f n ks F) (hg : X.A.guards = some []) (hr : Room k X.A) (tk : Takes X Wx) (I : Inv X pins σ H s) (r : Vals vs us) (hl : us.length = n + ks.length)
    (h : spF X.K F vs H Q fun cls d H' => Wx cls d σ H') : wpAny (model X.prog X.w) X.A (call (.ref f) (us.take n) (ks.zip (us.drop n))) (EP X pins σ Q) X.xe s := by
  refine wpAny_call (codeAny_mono (G X.A X.stack s H us vs Q _ hg hr I.env0 r hl h) fun r s' hq => ?_)
  match r, hq with
  | .error e, hq => exact passAt tk σ pins H s e s' I hq
  | .ok (.ret u), hq => exact I.after hq
  | .ok .next, hq => exact False.elim hq
  | .ok .brk, hq => exact False.elim hq
  | .ok .cont, hq => exact False.elim hq
/-- the arguments' world, for the callee -/
theorem args_sp {R : Wd → List V → List D → Prop} {W : Wd} {σ : St} {Wx : WX} {Xm : XC} {Q : VK} {Qm : D → Store → Prop} {vs : List V} {ds : List D} (rs : RS K W) (r : RDs W vs ds) (k : Cont K W RD Q Qm) (xr : XR K W σ Wx Xm) (m : F ds W.S Qm Xm) : spF K F vs W.H Q fun cls d H' => Wx cls d σ H' :=
  ⟨W, ds, Qm, Xm, rfl, rs, r, k, xr, m⟩
theorem je_call (G : FnG X.prog X.w X.K X.mg X.base k f n [] F) (hgd : X.A.guards = some []) (hr : Room k X.A) (hm : X.mg x = some (.ref f)) (hk : PySem.W.keepIn X.K (.ref f) = true) (ha : JA X (e :: es) ms) (hg : Gl X x := by rfl) (hdb : (x == ("__debug__" : Str)) = false := by decide)
    (he : starEach (e :: es) X.env = (false, eval e X.env) :: starEach es X.env := by rfl) (hpl : (backTo pos (starEach es X.env)).any (·.1) = false := by rfl) : JE X (.Call (.Name x p) (e :: es) [] pos) (mCall n F ms) := by
  constructor
  intro Wx tk
  constructor
  rintro pins s σ H Q I ⟨W, ρ, Qm, Xm, rfl, rs, re, xr, kq, q⟩
  refine wpAny_Call_Name_kw
      (ld_glob I hg hm ?_ hdb)
  refine PySem.W.callWith_K (h₀ := X.base) I.ok.mod.kin hk (thn ((ha.pa Wx tk).run pos pins s σ W.H (fun vs H1 => vs.length = n ∧ spF X.K F vs H1 Q fun cls d H' => Wx cls d σ H') I ?_) fun us s1 ⟨vs, H1, I1, r, hl, q1⟩ => ⟨I1.kIn, ?_⟩) he hpl
  · refine ⟨W, ρ, _, Xm, rfl, rs, re, xr, ?_, q⟩
    rintro W1 vs ds l rs1 r1 ⟨hl, m⟩
    exact ⟨r1.length.trans hl, W1, ds, Qm, Xm, rfl, rs1, r1, kq.mono l, xr.mono l, m⟩
  · have z := runG G hgd hr tk I1 r (by rw [← r.length, hl]; rfl) q1
    rw [List.take_of_length_le (by rw [← r.length]; omega), List.zip_nil_left] at z
    exact z
/-- keywords' values -/
structure JK (X : Cx) (kws : List Keyword) (m : Mr (List D)) : Prop where
  pk : ∀ Wx, Takes X Wx → PK X kws (tA X.K m Wx)
theorem pk_imp {kws : List Keyword} {t t' : TA} (h : PK X kws t) (i : ∀ σ H Q, t' σ H Q → t σ H Q) : PK X kws t' := ⟨fun pos pins s σ H Q I q => h.run pos pins s σ H Q I (i _ _ _ q)⟩
theorem jk_nil : JK X [] mNil := ⟨fun Wx _ => pk_imp pk_nil fun σ H Q ⟨W, ρ, Qm, Xm, eH, rs, re, xr, k, m⟩ => by
  subst eH
  exact k W [] [] (Le.refl W) rs .nil m⟩
theorem jk_cons {kws : List Keyword} {nm : Option Str} {kp : Pos} (ha : JE X a ma) (hr : JK X kws ms) : JK X (⟨nm, a, kp⟩ :: kws) (mCons ma ms) :=
  ⟨fun Wx tk => pk_imp (pk_cons (ha.pe Wx tk) (hr.pk Wx tk)) fun σ H Q ⟨W, ρ, Qm, Xm, eH, rs, re, xr, k, m⟩ =>
    ⟨W, ρ, _, Xm, eH, rs, re, xr, fun W1 x d l1 rs1 r1 m1 => ⟨W1, ρ, _, Xm, rfl, rs1, re.mono l1, xr.mono l1, fun W2 xs ds l2 rs2 r2 m2 => k W2 _ _ (l1.trans l2) rs2 (.cons (r1.mono l2) r2) m2, m1⟩, m⟩⟩
/-- f(k = v, ..) -/
theorem je_callK0 {kws : List Keyword} {ks : List Str} (G : FnG X.prog X.w X.K X.mg X.base k f 0 ks F) (hgd : X.A.guards = some []) (hr : Room k X.A) (hm : X.mg x = some (.ref f)) (hk : PySem.W.keepIn X.K (.ref f) = true) (ha : JK X kws ms) (hg : Gl X x := by rfl) (hdb : (x == ("__debug__" : Str)) = false := by decide)
    (hall : (backToKw pos (keywordEach kws X.env)).all (·.1.isSome) = true := by rfl) (hks : (backToKw pos (keywordEach kws X.env)).filterMap (·.1) = ks := by rfl)
    (hpl : ((backTo pos (starEach [] X.env)).any (·.1) || (backToKw pos (keywordEach kws X.env)).any (·.1.isNone)) = false := by rfl) : JE X (.Call (.Name x p) [] kws pos) (mCall ks.length F ms) := by
  constructor
  intro Wx tk
  constructor
  rintro pins s σ H Q I ⟨W, ρ, Qm, Xm, rfl, rs, re, xr, kq, q⟩
  refine wpAny_Call_Name_kw
      (ld_glob I hg hm ?_ hdb)
  refine PySem.W.callWith_KW0 (h₀ := X.base) I.ok.mod.kin hk hall (thn ((ha.pk Wx tk).run pos pins s σ W.H (fun vs H1 => vs.length = ks.length ∧ spF X.K F vs H1 Q fun cls d H' => Wx cls d σ H') I ?_) fun us s1 ⟨vs, H1, I1, r, hl, q1⟩ => ⟨I1.kIn, ?_⟩) hpl
  · refine ⟨W, ρ, _, Xm, rfl, rs, re, xr, ?_, q⟩
    rintro W1 vs ds l rs1 r1 ⟨hl, m⟩
    exact ⟨r1.length.trans hl, W1, ds, Qm, Xm, rfl, rs1, r1, kq.mono l, xr.mono l, m⟩
  · have z := runG G hgd hr tk I1 r (by rw [← r.length, hl]; omega) q1
    rw [hks]
    exact z
/-- f(e, .., k = v, ..) -/
theorem je_callK {kws : List Keyword} {ks : List Str} (G : FnG X.prog X.w X.K X.mg X.base k f n ks F) (hgd : X.A.guards = some []) (hr : Room k X.A) (hm : X.mg x = some (.ref f)) (hk : PySem.W.keepIn X.K (.ref f) = true) (hs : JA X (e :: es) ms) (ha : JK X kws mk) (hg : Gl X x := by rfl) (hdb : (x == ("__debug__" : Str)) = false := by decide)
    (hall : (backToKw pos (keywordEach kws X.env)).all (·.1.isSome) = true := by rfl) (hks : (backToKw pos (keywordEach kws X.env)).filterMap (·.1) = ks := by rfl) (he : starEach (e :: es) X.env = (false, eval e X.env) :: starEach es X.env := by rfl)
    (hpl : ((backTo pos (starEach (e :: es) X.env)).any (·.1)
        || (backToKw pos (keywordEach kws X.env)).any (·.1.isNone)) = false := by rfl) :
    JE X (.Call (.Name x p) (e :: es) kws pos) (fun ρ S Q Y => ms ρ S (fun ds S1 => mk ρ S1 (fun zs S2 => ds.length = n ∧ zs.length = ks.length ∧ F (ds ++ zs) S2 Q Y) Y) Y) := by
  constructor
  intro Wx tk
  constructor
  rintro pins s σ H Q I ⟨W, ρ, Qm, Xm, rfl, rs, re, xr, kq, q⟩
  refine wpAny_Call_Name_kw
      (ld_glob I hg hm ?_ hdb)
  have hv : tA X.K ms Wx σ W.H fun vs H1 => tA X.K mk Wx σ H1 fun ws H2 => vs.length = n ∧ ws.length = ks.length ∧ spF X.K F (vs ++ ws) H2 Q fun cls d H' => Wx cls d σ H' := by
    refine ⟨W, ρ, _, Xm, rfl, rs, re, xr, fun W1 vs ds l rs1 r1 m1 => ?_, q⟩
    refine ⟨W1, ρ, _, Xm, rfl, rs1, re.mono l, xr.mono l, ?_, m1⟩
    rintro W2 ws zs l2 rs2 r2 ⟨h1, h2, m⟩
    exact ⟨r1.length.trans h1, r2.length.trans h2, W2, _, Qm, Xm, rfl, rs2, (r1.mono l2).app r2, kq.mono (l.trans l2), xr.mono (l.trans l2), m⟩
  refine PySem.W.callWith_KW (h₀ := X.base) I.ok.mod.kin hk hall (thn ((hs.pa Wx tk).run pos pins s σ W.H _ I hv) fun us s1 ⟨vs, H1, I1, r, q1⟩ => ?_) hpl he
  refine thn ((ha.pk Wx tk).run pos pins s1 σ H1 _ I1 q1) fun ws s2 ⟨zs, H2, I2, rz, h1, h2, q2⟩ => ⟨I2.kIn, ?_⟩
  rw [hks]
  have z := runG G hgd hr tk I2 (r.append rz) (by rw [List.length_append, ← r.length, ← rz.length, h1, h2]) q2
  have e1 : us.length = n := by rw [← r.length, h1]
  rw [List.take_append_of_le_length (by omega), List.take_of_length_le (by omega), ← e1, List.drop_left] at z
  exact z

/-! ### methods of a living list -/
def lstS (S : Store) : D → Option (Nat × List D)
  | .ref l => (S l).bind fun o => match o with
    | .lst xs => some (l, xs)
    | _ => none
  | _ => none
theorem lstS_of {W : Wd} (rs : RS K W) {v : V} {d : D} {l : Nat} {xs : List D} (r : RD W v d) (h : lstS W.S d = some (l, xs)) : d = .ref l ∧ W.S l = some (.lst xs) ∧ v = .ref (W.μ l) ∧ l < W.n ∧ ∃ vs, W.H (W.μ l) = some (.lst vs) ∧ RDs W vs xs := by
  cases r with
  | ref l' hl =>
    have h' : ((W.S l').bind fun o => match o with
      | .lst ys => some (l', ys)
      | _ => none) = some (l, xs) := h
    cases e : W.S l' with
    | none =>
        rw [e] at h'; cases h'
    | some o =>
      rw [e] at h'
      cases o with
      | lst ys =>
        cases h'
        exact ⟨rfl, e, rfl, hl, rs.obj _ _ e⟩
      | _ => cases h'
  | _ => cases h
/-- g: what the method makes of the items and the arguments: the answer and the new items -/
def mMeth (g : List D → List D → Option (D × List D)) (mo : Mr D) (ms : Mr (List D)) : Mr D := fun ρ S Q X => mo ρ S (fun o S1 => match lstS S1 o with
  | none => False
  | some _ => ms ρ S1 (fun ds S2 => match lstS S2 o with
    | none => False
    | some (l, xs) => match g xs ds with
      | none => False
      | some (d, ys) => small ys.length ∧ Q d (put S2 l (.lst ys))) X) X
theorem meth_of {g : List D → List D → Option (D × List D)} {r : V → List V → Hp → VK → Prop}
    (hr : ∀ (W : Wd) (a : Addr) (vs us : List V) (xs ds : List D) (d : D) (ys : List D) (Q : VK), W.H a = some (.lst vs) → RDs W vs xs → RDs W us ds → g xs ds = some (d, ys) → small ys.length → (∀ v ws, RD W v d → RDs W ws ys → Q v (upd W.H a (.lst ws))) → r (.ref a) us W.H Q)
    {Wx : WX} {σ : St} {H : Hp} {Q : VK} (h : tE K (mMeth g mo ms) Wx σ H Q) : tE K mo Wx σ H fun x H1 => tyV X.K "list" x H1 ∧ tA K ms Wx σ H1 fun us H2 => r x us H2 Q := by
  obtain ⟨W, ρ, Qm, Xm, eH, rs, re, xr, k, q⟩ := h
  refine ⟨W, ρ, _, Xm, eH, rs, re, xr, fun W1 v d l1 rs1 r1 m1 => ?_, q⟩
  split at m1
  · exact m1.elim
  · rename_i z e1
    obtain ⟨rfl, e2, rfl, hl, vs, h1, h2⟩ := lstS_of (l := z.1) (xs := z.2) rs1 r1 e1
    refine ⟨.inl ⟨rfl, vs, .inl (.inl h1)⟩, W1, ρ, _, Xm, rfl, rs1, re.mono l1, xr.mono l1, fun W2 us ds l2 rs2 r2 m2 => ?_, m1⟩
    split at m2
    · exact m2.elim
    · rename_i l xs e3
      have r12 := RD.mono l2 r1
      obtain ⟨er, e4, ev, hl2, vs2, h3, h4⟩ := lstS_of rs2 r12 e3
      rw [ev]
      split at m2
      · exact m2.elim
      · rename_i d ys eg
        refine hr W2 (W2.μ l) vs2 us xs ds d ys Q h3 h4 r2 eg m2.1 fun v ws rv rw' => ?_
        have lw : Le W2 (W2.wr l (.lst ws) (.lst ys)) := Le.wr e4
        exact k (W2.wr l (.lst ws) (.lst ys)) v d ((l1.trans l2).trans lw) (rs2.wr e4 ⟨ws, upd_same, rw'.mono lw⟩) (rv.mono lw) m2.2
def gAppend : List D → List D → Option (D × List D) := fun xs ds => match ds with
  | [d] => some (.non, xs ++ [d])
  | _ => none
def gPopAt : List D → List D → Option (D × List D) := fun xs ds => match ds with
  | [.int j] => if 0 ≤ j ∧ j < 1000000 then (match seqIndex? j xs.length with
    | some q => (xs[q]?).map fun d => (d, xs.eraseIdx q)
    | none => none) else none
  | _ => none
def gPop : List D → List D → Option (D × List D) := fun xs ds => match ds with
  | [] => (xs[xs.length - 1]?).map fun d => (d, xs.dropLast)
  | _ => none
theorem je_append {ap cp : Pos} (ho : JE X o mo) (ha : JA X [e] ms) (hb : attributeBase o "append" X.env (eval o X.env) = eval o X.env := by rfl)
    (hf : ((backTo cp (starEach [e] X.env)).all (fun x => !x.1) && (backToKw cp (keywordEach [] X.env)).all (fun x => x.1.isSome) && decide ([e].length + ([] : List Keyword).length + (if ([] : List Keyword).isEmpty then 0 else 1) < 30)) = true := by rfl)
    (hl : (ap.endLine == cp.line) = true := by rfl) (hs : starEach [e] X.env = (false, eval e X.env) :: starEach [] X.env := by rfl) (hp : (backTo cp (starEach [] X.env)).any (·.1) = false := by rfl) : JE X (.Call (.Attribute o "append" ap) [e] [] cp) (mMeth gAppend mo ms) :=
  ⟨fun Wx tk => pe_imp (pe_bm PySem.F.plainAttrs_list PySem.F.slot_list_append PySem.F.type_list_append mt_append (ho.pe Wx tk) (ha.pa Wx tk) hb hf hl hs hp) fun _ _ _ h => meth_of (X := X) (r := rAppend) (fun W a vs us xs ds d ys Q h1 h2 h3 h4 h5 h6 => by
    unfold gAppend at h4
    split at h4
    · cases h4
      cases h3 with
      | cons r3 r4 =>
        cases r4
        refine ⟨a, vs, _, rfl, rfl, h1, ?_, h6 .non _ .non (h2.app (.cons r3 .nil))⟩
        rw [h2.length]
        rw [List.length_append] at h5
        exact small_lt (n := xs.length) (by unfold small at *; omega)
    · cases h4) h⟩
theorem je_popAt {ap cp : Pos} (ho : JE X o mo) (ha : JA X [e] ms) (hb : attributeBase o "pop" X.env (eval o X.env) = eval o X.env := by rfl)
    (hf : ((backTo cp (starEach [e] X.env)).all (fun x => !x.1) && (backToKw cp (keywordEach [] X.env)).all (fun x => x.1.isSome) && decide ([e].length + ([] : List Keyword).length + (if ([] : List Keyword).isEmpty then 0 else 1) < 30)) = true := by rfl)
    (hl : (ap.endLine == cp.line) = true := by rfl) (hs : starEach [e] X.env = (false, eval e X.env) :: starEach [] X.env := by rfl) (hp : (backTo cp (starEach [] X.env)).any (·.1) = false := by rfl) : JE X (.Call (.Attribute o "pop" ap) [e] [] cp) (mMeth gPopAt mo ms) :=
  ⟨fun Wx tk => pe_imp (pe_bm PySem.F.plainAttrs_list PySem.F.slot_list_pop PySem.F.type_list_pop mt_popAt (ho.pe Wx tk) (ha.pa Wx tk) hb hf hl hs hp) fun _ _ _ h => meth_of (X := X) (r := rPopAt) (fun W a vs us xs ds d ys Q h1 h2 h3 h4 h5 h6 => by
    unfold gPopAt at h4
    split at h4
    · rename_i j
      split at h4
      · rename_i hj
        split at h4
        · rename_i q eq
          cases ex : xs[q]? with
          | none => rw [ex] at h4; cases h4
          | some d' =>
            rw [ex] at h4
            cases h4
            cases h3 with
            | cons r3 r4 =>
              cases r3; cases r4
              obtain ⟨v, e1, e2⟩ := h2.get ex
              exact ⟨a, vs, j, q, v, rfl, rfl, h1, by omega, by omega, by rw [h2.length]; exact eq, e1, h6 v _ e2 (h2.erase q)⟩
        · cases h4
      · cases h4
    · cases h4) h⟩
theorem je_pop {ap cp : Pos} (ho : JE X o mo) (hb : attributeBase o "pop" X.env (eval o X.env) = eval o X.env := by rfl) (hl : (ap.endLine == cp.line) = true := by rfl) : JE X (.Call (.Attribute o "pop" ap) [] [] cp) (mMeth gPop mo mNil) :=
  ⟨fun Wx tk => pe_imp (pe_bm0 PySem.F.plainAttrs_list PySem.F.slot_list_pop PySem.F.type_list_pop mt_pop (ho.pe Wx tk) hb hl) fun σ H Q h => by
    have z := meth_of (X := X) (r := rPop) (fun W a vs us xs ds d ys Q h1 h2 h3 h4 h5 h6 => by
      unfold gPop at h4
      split at h4
      · cases h3
        cases ex : xs[xs.length - 1]? with
        | none => rw [ex] at h4; cases h4
        | some d' =>
          rw [ex] at h4
          cases h4
          obtain ⟨v, e1, e2⟩ := h2.get ex
          exact ⟨a, vs, v, rfl, rfl, h1, by rw [h2.length]; exact e1, h6 v _ e2 h2.last⟩
      · cases h4) h
    obtain ⟨W, ρ, Qm, Xm, eH, rs, re, xr, k, q⟩ := z
    refine ⟨W, ρ, Qm, Xm, eH, rs, re, xr, fun W1 v d l1 rs1 r1 m1 => ?_, q⟩
    obtain ⟨h1, W2, ρ2, Qm2, Xm2, e2, rs2, re2, xr2, k2, q2⟩ := k W1 v d l1 rs1 r1 m1
    have z2 := k2 W2 [] [] (Le.refl W2) rs2 .nil q2
    rw [e2] at z2
    exact ⟨h1, z2⟩⟩
end
end Mir
end

section
set_option Elab.async false
set_option linter.all false
set_option maxRecDepth 100000
set_option maxHeartbeats 2001000
/-! Dicts, types, repr, steps that never come, try. -/
namespace Mir
open PySem L2

/-! ### dicts by ints and texts -/
def look {κ : Type} [DecidableEq κ] (kvs : List (κ × D)) (k : κ) : Option D := (kvs.find? fun kv => decide (kv.1 = k)).map (·.2)
def stor {κ : Type} [DecidableEq κ] (kvs : List (κ × D)) (k : κ) (v : D) : List (κ × D) := if (kvs.any fun kv => decide (kv.1 = k)) = true then kvs.map (fun kv => if kv.1 = k then (kv.1, v) else kv) else kvs ++ [(k, v)]
theorem RK.look {W : Wd} {κ : Type} [DecidableEq κ] {k : κ} : ∀ {a : List (κ × V)} {b : List (κ × D)}, RK W a b → (∀ d, Mir.look b k = some d → ∃ v, valV a k = some v ∧ RD W v d) ∧ (Mir.look b k = none → valV a k = none)
  | _, _, .nil => ⟨fun d h => (by cases h), fun _ => rfl⟩
  | (k1, v) :: a, (k2, d) :: b, .cons ⟨e, r⟩ t => by
    have e' : k1 = k2 := e
    subst e'
    obtain ⟨h1, h2⟩ := RK.look (k := k) t
    by_cases hk : k1 = k
    · have q1 : Mir.look ((k1, d) :: b) k = some d := by simp [Mir.look, List.find?_cons, hk]
      have q2 : valV ((k1, v) :: a) k = some v := valV_pos hk
      rw [q1, q2]
      exact ⟨fun d' h => by cases h; exact ⟨v, rfl, r⟩, fun h => by cases h⟩
    · have q1 : Mir.look ((k1, d) :: b) k = Mir.look b k := by simp [Mir.look, List.find?_cons, hk]
      have q2 : valV ((k1, v) :: a) k = valV a k := valV_neg hk
      rw [q1, q2]
      exact ⟨h1, h2⟩
theorem RK.any {W : Wd} {κ : Type} [DecidableEq κ] {k : κ} : ∀ {a : List (κ × V)} {b : List (κ × D)}, RK W a b → (a.any fun kv => decide (kv.1 = k)) = b.any fun kv => decide (kv.1 = k)
  | _, _, .nil => rfl
  | (k1, v) :: a, (k2, d) :: b, .cons ⟨e, r⟩ t => by
    have e' : k1 = k2 := e
    subst e'
    rw [List.any_cons, List.any_cons, RK.any t]
theorem RK.len {W : Wd} {κ : Type} : ∀ {a : List (κ × V)} {b : List (κ × D)}, RK W a b → a.length = b.length
  | _, _, .nil => rfl
  | _, _, .cons _ t => congrArg (· + 1) (RK.len t)
theorem RK.snoc {W : Wd} {κ : Type} {k : κ} {v : V} {d : D} (q : RD W v d) : ∀ {a : List (κ × V)} {b : List (κ × D)}, RK W a b → RK W (a ++ [(k, v)]) (b ++ [(k, d)])
  | _, _, .nil => .cons ⟨rfl, q⟩ .nil
  | _, _, .cons r t => .cons r (RK.snoc q t)
theorem RK.upd {W : Wd} {κ : Type} [DecidableEq κ] {k : κ} {v : V} {d : D} (q : RD W v d) : ∀ {a : List (κ × V)} {b : List (κ × D)}, RK W a b → RK W (a.map fun kv => if kv.1 = k then (kv.1, v) else kv) (b.map fun kv => if kv.1 = k then (kv.1, d) else kv)
  | _, _, .nil => .nil
  | (k1, v1) :: a, (k2, d1) :: b, .cons ⟨e, r⟩ t => by
    have e' : k1 = k2 := e
    subst e'
    refine .cons ?_ (RK.upd q t)
    by_cases hk : k1 = k
    · show _ ∧ _
      simp only [hk, if_true]
      exact ⟨trivial, q⟩
    · show _ ∧ _
      simp only [hk, if_false]
      exact ⟨trivial, r⟩
theorem RK.put {W : Wd} {κ : Type} [DecidableEq κ] {k : κ} {v : V} {d : D} (q : RD W v d) {a : List (κ × V)} {b : List (κ × D)} (h : RK W a b) : RK W (putK a k v) (stor b k d) := by
  unfold putK stor
  rw [RK.any h]
  split
  · exact RK.upd q h
  · exact RK.snoc q h
def keyD : D → Option Key
  | .int i => some (.inl i)
  | .str s => some (.inr s)
  | _ => none
theorem key_of {W : Wd} {v : V} {d : D} {k : Key} (r : RD W v d) (h : keyD d = some k) : v = kV k := by
  cases r <;> cases h <;> rfl
def dkS (S : Store) : D → Option (Nat × List (Key × D))
  | .ref l => (S l).bind fun o => match o with
    | .dk kvs => some (l, kvs)
    | _ => none
  | _ => none
theorem dkS_of {W : Wd} (rs : RS K W) {v : V} {d : D} {l : Nat} {kvs : List (Key × D)} (r : RD W v d) (h : dkS W.S d = some (l, kvs)) : d = .ref l ∧ W.S l = some (.dk kvs) ∧ v = .ref (W.μ l) ∧ l < W.n ∧ ∃ ks, W.H (W.μ l) = some (.dK ks) ∧ RK W ks kvs := by
  cases r with
  | ref l' hl =>
    have h' : ((W.S l').bind fun o => match o with
      | .dk ys => some (l', ys)
      | _ => none) = some (l, kvs) := h
    cases e : W.S l' with
    | none =>
        rw [e] at h'; cases h'
    | some o =>
      rw [e] at h'
      cases o with
      | dk ys =>
        cases h'
        exact ⟨rfl, e, rfl, hl, rs.obj _ _ e⟩
      | _ => cases h'
  | _ => cases h
section
variable {X : Cx} {a b c e o i : Expr} {ma mb mc me mo mi : Mr D} {pos p : Pos} {es : List Expr} {ms mk : Mr (List D)}
/-- d[k] -/
def fDGet : F2 := fun o i S k => match dkS S o, keyD i with
  | some (_, kvs), some q => match look kvs q with
    | some d => k d
    | none => False
  | _, _ => False
theorem je_dget (hu : X.A.units + 1 < cLine) (ho : JE X o mo) (hi : JE X i mi) (hs : NoSl i := by exact fun _ _ => rfl) : JE X (.Subscript o i pos) (mOp fDGet mo mi) :=
  ⟨fun Wx tk => pe_imp (pe_dget hu (ho.pe Wx tk) (hi.pe Wx tk) hs) fun σ H Q ⟨W, ρ, Qm, Xm, eH, rs, re, xr, k, q⟩ => by
    subst eH
    refine ⟨W, ρ, _, Xm, rfl, rs, re, xr, fun W1 v d l1 rs1 r1 m1 => ⟨W1, ρ, _, Xm, rfl, rs1, re.mono l1, xr.mono l1, fun W2 y dy l2 rs2 r2 m2 => ?_, m1⟩, q⟩
    unfold fDGet at m2
    split at m2
    · rename_i l kvs kk e1 e2
      split at m2
      · rename_i dv e3
        obtain ⟨rfl, h1, hv, h2, ks, h3, h4⟩ := dkS_of rs2 (r1.mono l2) e1
        rw [hv]
        obtain ⟨v', h5, h6⟩ := (RK.look (k := kk) h4).1 _ e3
        rw [key_of r2 e2]
        have g := DGet.k (k := kk) h3
        rw [h5] at g
        exact ⟨_, v', rfl, g, k W2 v' dv (l1.trans l2) rs2 h6 m2⟩
      · exact m2.elim
    · exact m2.elim⟩
/-- k in d, k not in d -/
def mDIn (n : Bool) (mi mo : Mr D) : Mr D := fun ρ S Q X => mi ρ S (fun i S1 => mo ρ S1 (fun o S2 => match dkS S2 o, keyD i with
  | some (_, kvs), some q => Q (.bl (n ^^ (look kvs q).isSome)) S2
  | _, _ => False) X) X
theorem din_of {n : Bool} {Wx : WX} {σ : St} {H : Hp} {Q : VK} (h : tE K (mDIn n mi mo) Wx σ H Q) : tE K mi Wx σ H fun y H1 => tE K mo Wx σ H1 fun x H2 => ∃ a o, x = .ref a ∧ DGet H2 a y o ∧ Q (.bl (n ^^ o.isSome)) H2 := by
  obtain ⟨W, ρ, Qm, Xm, eH, rs, re, xr, k, q⟩ := h
  refine ⟨W, ρ, _, Xm, eH, rs, re, xr, fun W1 v d l1 rs1 r1 m1 => ⟨W1, ρ, _, Xm, rfl, rs1, re.mono l1, xr.mono l1, fun W2 y dy l2 rs2 r2 m2 => ?_, m1⟩, q⟩
  split at m2
  · rename_i l kvs kk e1 e2
    obtain ⟨rfl, h1, rfl, h2, ks, h3, h4⟩ := dkS_of rs2 r2 e1
    rw [key_of (r1.mono l2) e2]
    refine ⟨_, valV ks kk, rfl, DGet.k h3, ?_⟩
    obtain ⟨q1, q2⟩ := RK.look (k := kk) h4
    cases e3 : look kvs kk with
    | none =>
      rw [q2 e3]
      rw [e3] at m2
      exact k W2 _ _ (l1.trans l2) rs2 (.bl _) m2
    | some dd =>
      obtain ⟨vv, e4, _⟩ := q1 dd e3
      rw [e4]
      rw [e3] at m2
      exact k W2 _ _ (l1.trans l2) rs2 (.bl _) m2
  · exact m2.elim
theorem je_din (hu : X.A.units + 1 < cLine) (hi : JE X i mi) (ho : JE X o mo) (h1 : behindInMarks .In o = false := by rfl) : JE X (.Compare i [.In] [o] pos) (mDIn false mi mo) :=
  ⟨fun Wx tk => pe_imp (pe_cmp (pc_din hu (hi.pe Wx tk) (ho.pe Wx tk)) h1) fun σ H Q h => by
    have z := din_of h
    simp only [Bool.false_xor] at z
    exact z⟩
theorem je_dnin (hu : X.A.units + 1 < cLine) (hi : JE X i mi) (ho : JE X o mo) (h1 : behindInMarks .NotIn o = false := by rfl) : JE X (.Compare i [.NotIn] [o] pos) (mDIn true mi mo) :=
  ⟨fun Wx tk => pe_imp (pe_cmp (pc_dnotin hu (hi.pe Wx tk) (ho.pe Wx tk)) h1) fun σ H Q h => by
    have z := din_of h
    simp only [Bool.true_xor] at z
    exact z⟩
/-- d[k] = v -/
def mDPut (mo mi mv : Mr D) : MS := fun M ρ S => mv ρ S (fun v S1 => mo ρ S1 (fun o S2 => mi ρ S2 (fun i S3 => match dkS S3 o, keyD i with
  | some (l, kvs), some q => small kvs.length ∧ M.nx ρ (put S3 l (.dk (stor kvs q v)))
  | _, _ => False) (M.x ρ)) (M.x ρ)) (M.x ρ)
theorem js_dput {p' : Pos} (hu : X.A.units + 1 < cLine) (ho : JE X o mo) (hi : JE X i mi) (hv : JE X e me) (hs : swapsWith e (some (.Subscript o i p')) pos.line X.env = pure false := by rfl) : JS X (.Assign [.Subscript o i p'] e pos) (mDPut mo mi me) :=
  ⟨fun Wx tk => ps_imp (ps_dput hu (ho.pe Wx tk) (hi.pe Wx tk) (hv.pe Wx tk) hs) fun D0 σ H ⟨W, ρ, M, eH, rs, re, er, q⟩ => by
    subst eH
    have xr := er.xc W σ ρ (Le.refl W) rs re
    refine ⟨W, ρ, _, _, rfl, rs, re, xr, fun W1 v dv l1 rs1 r1 m1 => ⟨W1, ρ, _, _, rfl, rs1, re.mono l1, xr.mono l1, fun W2 x dx l2 rs2 r2 m2 => ⟨W2, ρ, _, _, rfl, rs2, re.mono (l1.trans l2), xr.mono (l1.trans l2), fun W3 y dy l3 rs3 r3 m3 => ?_, m2⟩, m1⟩, q⟩
    split at m3
    · rename_i l kvs kk e1 e2
      obtain ⟨rfl, h1, hv, h2, ks, h3, h4⟩ := dkS_of rs3 (r2.mono l3) e1
      rw [hv, key_of r3 e2]
      have lw : Le W3 (W3.wr l (.dK (putK ks kk v)) (.dk (stor kvs kk dv))) := Le.wr h1
      have ll := (l1.trans l2).trans l3
      refine ⟨_, _, rfl, DPut.k h3 (by rw [RK.len h4]; exact small_lt m3.1), ?_⟩
      exact er.nx (W3.wr l _ _) σ ρ (ll.trans lw) (rs3.wr h1 ⟨_, upd_same, RK.put ((r1.mono (l2.trans l3)).mono lw) (RK.mono lw h4)⟩) (re.mono (ll.trans lw)) m3.2
    · exact m3.elim⟩

/-! ### isinstance of a built-in class -/
inductive Ty where
  | non | bl | int | str | tup | lst | dct
  deriving DecidableEq
def Ty.nm : Ty → String
  | .non => "NoneType" | .bl => "bool" | .int => "int" | .str => "str" | .tup => "tuple" | .lst => "list" | .dct => "dict"
def Ty.isi : Ty → Ty → Bool
  | .bl, .int => true
  | a, b => decide (a = b)
theorem isi_ok : ∀ a b : Ty, b ≠ .non → kitB a.nm b.nm = some (a.isi b) := by
  intro a b hb
  cases a <;> cases b <;> first | exact absurd rfl hb | decide +kernel
def tyD (S : Store) : D → Option Ty
  | .non => some .non
  | .bl _ => some .bl
  | .int _ => some .int
  | .str _ => some .str
  | .tup _ => some .tup
  | .lst _ => some .lst
  | .frz _ => none
  | .dct _ _ => some .dct
  | .dctT _ _ => none
  | .ref l => (S l).bind fun o => match o with
    | .lst _ => some .lst
    | .dk _ => some .dct
    | .dt _ => some .dct
    | .orc _ => some .dct
    | .exc _ _ => none
    | .tabs _ => none
theorem ty_of {K : PySem.W.Frag} {W : Wd} (rs : RS K W) {v : V} {d : D} {t : Ty} (r : RD W v d) (h : tyD W.S d = some t) : TyX K W.H v (.type t.nm) := by
  cases r with
  | non => cases h; exact .base .non
  | bl b => cases h; exact .base (.bl b)
  | int b => cases h; exact .base (.int b)
  | str b => cases h; exact .base (.str b)
  | tup h1 _ _ => cases h; exact .base (.tup h1)
  | lst h1 _ _ => cases h; exact .base (.lst h1)
  | frz h1 _ => cases h
  | dct h1 _ _ _ => cases h; exact .fDict h1
  | dctT h1 _ _ _ => cases h
  | ref l hl =>
    cases e : W.S l with
    | none => rw [tyD, e] at h; cases h
    | some o =>
      rw [tyD, e] at h
      cases o with
      | lst ys => cases h; obtain ⟨_, h1, _⟩ := rs.obj _ _ e; exact .base (.lst h1)
      | dk ys => cases h; obtain ⟨_, h1, _⟩ := rs.obj _ _ e; exact .base (.dK h1)
      | dt ys => cases h; obtain ⟨_, h1, _⟩ := rs.obj _ _ e; exact .base (.dT h1)
      | orc P => cases h; obtain ⟨_, _, h1, _⟩ := rs.obj _ _ e; exact .base (.dK h1)
      | exc C fs => cases h
      | tabs T => cases h
def mIsi (t : Ty) (me : Mr D) : Mr D := fun ρ S Q X => me ρ S (fun d S1 => match tyD S1 d with
  | some u => Q (.bl (u.isi t)) S1
  | none => False) X
theorem je_isi {T : Str} {t : Ty} {p2 : Pos} (hm : X.mg "isinstance" = none) (hT : X.mg T = none) (hv : bootBuiltins T = some (.type t.nm)) (ht : t ≠ .non) (ha : JE X e me) (hg : Gl X "isinstance" := by rfl) (hg2 : Gl X T := by rfl) (hn : T ≠ "__name__" := by decide) (hd : (T == ("__debug__" : Str)) = false := by decide)
    (he : starEach [e, .Name T p2] X.env = (false, eval e X.env) :: starEach [.Name T p2] X.env := by rfl) (he2 : starEach [.Name T p2] X.env = (false, eval (.Name T p2) X.env) :: starEach [] X.env := by rfl) (hpl : (backTo pos (starEach [.Name T p2] X.env)).any (·.1) = false := by rfl) :
    JE X (.Call (.Name "isinstance" p) [e, .Name T p2] [] pos) (mIsi t me) :=
  ⟨fun Wx tk => pe_imp (pe_callB call_isi hg hm (by decide +kernel) (pa_cons (ha.pe Wx tk) (pa_cons (pe_bltn (v := .ty t.nm) hg2 hT hv rfl hn hd) pa_nil he2) he) (by decide) (by decide) he hpl) fun σ H Q ⟨W, ρ, Qm, Xm, eH, rs, re, xr, k, q⟩ => by
    subst eH
    refine ⟨W, ρ, _, Xm, rfl, rs, re, xr, fun W1 v d l1 rs1 r1 m1 => ?_, q⟩
    split at m1
    · rename_i u e1
      exact ⟨v, .ty t.nm, .type u.nm, .type t.nm, _, rfl, .ty _, ty_of rs1 r1 e1, kit_ty (isi_ok u t ht), k W1 _ _ l1 rs1 (.bl _) m1⟩
    · exact m1.elim⟩

/-! ### repr -/
def fRepr : FA := fun ds S k => match ds with
  | [d] => match pyS S d with
    | some p => p.showable = true ∧ p.depth ≤ 50 ∧ p.shown.length ≤ sizeLine ∧ k (.str p.shown)
    | none => False
  | _ => False
mutual
theorem noDict {K : PySem.W.Frag} {H : Hp} : ∀ {p : PyData} {v : V}, Dp K H v p → p.hasDict = false
  | .none, _, _ => rfl
  | .bool _, _, _ => rfl
  | .int _, _, _ => rfl
  | .str _, _, _ => rfl
  | .list ds, _, h => by
    cases h with
    | lst _ ha => exact noDicts ha
  | .tuple ds, _, h => by
    cases h with
    | tup _ ha => exact noDicts ha
  | .dict _, _, h => by cases h
theorem noDicts {K : PySem.W.Frag} {H : Hp} : ∀ {ds : List PyData} {vs : List V}, DpAll K H vs ds → PyData.hasDictAll ds = false
  | [], _, _ => rfl
  | d :: ds, _, h => by
    cases h with
    | cons h1 h2 => rw [PyData.hasDictAll, noDict h1, noDicts h2]; rfl
end
def rRepr (K : PySem.W.Frag) : List V → Hp → VK → Prop := fun xs H Q => ∃ (v : V) (p : PyData), xs = [v] ∧ Dp K H v p ∧ p.showable = true ∧ p.depth ≤ 50 ∧ p.shown.length ≤ sizeLine ∧ Q (.str p.shown) H
theorem call_reprD (hg : X.A.guards = some []) (hu : X.A.units + 64 < cLine) : CallR X (.builtin "repr") (rRepr X.K) := by
  rintro pins s σ H xs us Q I r ⟨v, p, rfl, hd, hs, hp, hz, q⟩
  obtain ⟨u, rfl, ru⟩ :=
      vals1 r
  obtain ⟨as, rd⟩ := Dp.reads I p v u hd ru
  have fin : ∀ (h' : Heap) (t : Tok) (tk : Nat), (∀ b o, s.heap.get? b = some o → h'.get? b = some o) → EP X pins σ Q (.str p.shown t) { s with heap := h', toks := tk } := fun h' t tk kp => ⟨.str p.shown, H, I.kept kp, ⟨t, rfl⟩, q⟩
  have hnd := noDict hd
  cases rd with
  | none => exact PySem.P.repr_of_none (fin s.heap _ _ fun _ _ e => e)
  | bool b => exact PySem.P.repr_of_bool (fin s.heap _ _ fun _ _ e => e)
  | int i t => exact PySem.P.repr_of_int (of_decide_eq_true hs) (fin s.heap _ _ fun _ _ e => e)
  | str x t => exact PySem.P.repr_of_str (fin s.heap _ _ fun _ _ e => e) hz
  | list h1 h2 h3 h4 => exact repr_of_reads' (.list h1 h2 h3 h4) hs (PyData.noDict_hsm hnd) hg (by omega) (fun _ _ e => e) fin hz
  | tuple h1 h2 h3 h4 => exact repr_of_reads' (.tuple h1 h2 h3 h4) hs (PyData.noDict_hsm hnd) hg (by omega) (fun _ _ e => e) fin hz
  | dict => cases hd
theorem snd_repr {K : PySem.W.Frag} : SndA K fRepr (rRepr K) := by
  intro W xs ds Q Qm rs r k m
  unfold fRepr at m
  split at m
  · split at m
    · rename_i p e
      cases r with
      | cons r1 r2 =>
        cases r2
        exact ⟨_, p, rfl, r1.dpS rs e, m.1, m.2.1, m.2.2.1, k W _ _ (Le.refl W) rs (.str _) m.2.2.2⟩
    · exact m.elim
  · exact m.elim

/-! ### what is never reached; a try that runs through -/
def mNever : MS := fun _ _ _ => False
theorem js_never {st : Stmt} : JS X st mNever := ⟨fun Wx _ => ps_imp ps_never fun D0 σ H ⟨W, ρ, M, eH, rs, re, er, q⟩ => q.elim⟩
def mThru (mb : MS) : MS := fun M ρ S => mb { M with xc := fun _ _ _ _ => False } ρ S
theorem js_thru {body : List Stmt} {h₀ : ExceptHandler} {hs : List ExceptHandler} {mb : MS} (hb : JB X.nox body mb) : JS X (.Try body (h₀ :: hs) [] [] pos) (mThru mb) :=
  ⟨fun Wx _ => ps_imp (ps_try_thru0 (hb.pb _ takes0)) fun D0 σ H ⟨W, ρ, M, eH, rs, re, er, q⟩ => ⟨W, ρ, { M with xc := fun _ _ _ _ => False }, eH, rs, re, ⟨er.nx, er.rt, fun _ _ _ _ _ _ => xr0, er.bk, er.ct⟩, q⟩⟩
end
end Mir
end

section
set_option Elab.async false
set_option linter.all false
set_option maxRecDepth 100000
set_option maxHeartbeats 2001000
/-! Names of the file, slices, order of tuples, sequences as targets, least and greatest. -/
namespace Mir
open PySem L2

section
variable {X : Cx} {a b c e o i : Expr} {ma mb mc me mo mi : Mr D} {pos p : Pos} {es : List Expr} {ms mk : Mr (List D)}
/-! ### a number of the file's top -/
theorem je_gint {x : Str} {n : Int} {t : Tok} (hm : X.mg x = some (.int n t)) (hg : Gl X x := by rfl) (hd : (x == ("__debug__" : Str)) = false := by decide) : JE X (.Name x pos) (mC (.int n)) :=
  je_c (pe_glob (v := .int n) hg hm ⟨t, rfl⟩ hd) fun _ => .int n

/-! ### o[lo:hi] -/
def cutD (xs : List D) (lo hi : Option Int) : List D := (xs.drop (HT.sIx xs.length 0 lo)).take (HT.sIx xs.length xs.length hi - HT.sIx xs.length 0 lo)
theorem cut_RDs {W : Wd} {vs : List V} {ds : List D} (r : RDs W vs ds) (lo hi : Option Int) : RDs W (cutV vs lo hi) (cutD ds lo hi) := by
  unfold cutV cutD
  rw [r.length]
  exact (r.drop _).take _
structure JO (X : Cx) (e : Option Expr) (m : Mr (Option Int)) : Prop where
  po : ∀ Wx, Takes X Wx → PO X e (tG X.K (fun _ a b => a = b) m Wx)
def mNoP : Mr (Option Int) := fun _ S Q _ => Q none S
def mP (m : Mr D) : Mr (Option Int) := fun ρ S Q X => m ρ S (fun d S1 => match d with
  | .int i => Q (some i) S1
  | _ => False) X
theorem po_imp {e : Option Expr} {t t' : TO} (h : PO X e t) (i : ∀ σ H Q, t' σ H Q → t σ H Q) : PO X e t' := ⟨fun pins s σ H Q I q => h.run pins s σ H Q I (i _ _ _ q)⟩
theorem jo_none : JO X none mNoP := ⟨fun Wx _ => po_imp po_none fun σ H Q ⟨W, ρ, Qm, Xm, eH, rs, re, xr, k, q⟩ => by
  subst eH
  exact k W none none (Le.refl W) rs rfl q⟩
theorem jo_some (h : JE X e me) : JO X (some e) (mP me) := ⟨fun Wx tk => po_imp (po_some (h.pe Wx tk)) fun σ H Q ⟨W, ρ, Qm, Xm, eH, rs, re, xr, k, q⟩ => by
  subst eH
  refine ⟨W, ρ, _, Xm, rfl, rs, re, xr, fun W1 v d l rs1 r1 q1 => ?_, q⟩
  cases r1 <;> first | exact q1.elim | exact ⟨_, rfl, k W1 _ _ l rs1 rfl q1⟩⟩
theorem cut_whole {xs : List D} {lo hi : Option Int} (hw : HT.sIx xs.length 0 lo = 0 ∧ HT.sIx xs.length xs.length hi = xs.length) : cutD xs lo hi = xs := by
  unfold cutD
  rw [hw.1, hw.2]
  simp
def fCut (d : D) (lo hi : Option Int) (S : Store) (k : D → Prop) : Prop := match d with
  | .tup xs => k (.tup (cutD xs lo hi))
  | d => match asL S d with
    | some xs => k (.lst (cutD xs lo hi))
    | none => False
def mSlice (me : Mr D) (ml mu : Mr (Option Int)) : Mr D := fun ρ S Q X => me ρ S (fun d S1 => ml ρ S1 (fun lo S2 => mu ρ S2 (fun hi S3 => fCut d lo hi S3 fun x => Q x S3) X) X) X
theorem je_slice {lo hi : Option Expr} {p2 : Pos} {ml mu : Mr (Option Int)} (he : JE X e me) (hl : JO X lo ml) (hu : JO X hi mu) : JE X (.Subscript e (.Slice lo hi none p2) pos) (mSlice me ml mu) :=
  ⟨fun Wx tk => pe_imp (pe_slice (sl_list.or sl_tupA) (he.pe Wx tk) (hl.po Wx tk) (hu.po Wx tk)) fun σ H Q ⟨W, ρ, Qm, Xm, eH, rs, re, xr, k, q⟩ => by
    subst eH
    refine ⟨W, ρ, _, Xm, rfl, rs, re, xr, fun W1 v d l1 rs1 r1 q1 => ?_, q⟩
    refine ⟨W1, ρ, _, Xm, rfl, rs1, re.mono l1, xr.mono l1, fun W2 lo2 lo l2 rs2 r2 q2 => ?_, q1⟩
    subst r2
    refine ⟨W2, ρ, _, Xm, rfl, rs2, re.mono (l1.trans l2), xr.mono (l1.trans l2), fun W3 hi2 hi l3 rs3 r3 q3 => ?_, q2⟩
    subst r3
    have k3 := k.mono ((l1.trans l2).trans l3)
    have r1' := r1.mono (l2.trans l3)
    unfold fCut at q3
    split at q3
    · obtain ⟨a, vs, rfl, h1, h2⟩ := tup_of (K := X.K) r1'
      refine .inr ⟨a, vs, rfl, h1, fun hw => ?_, fun _ => k3.tup rs3 (cut_RDs h2 _ _) q3⟩
      have whole : cutD _ _ _ = _ := cut_whole (by rw [← h2.length]; exact hw)
      rw [whole] at q3
      exact k3 _ _ _ (Le.refl _) rs3 r1' q3
    · split at q3
      · rename_i xs e1
        obtain ⟨a, vs, rfl, h1, h2⟩ := asL_of (K := X.K) rs3 r1' e1
        exact .inl ⟨a, vs, rfl, h1, k3.lst rs3 (cut_RDs h2 _ _) q3⟩
      · exact q3.elim⟩

/-! ### ints; tuples of ints in order -/
def intsD : List D → Option (List Int)
  | [] => some []
  | .int i :: ds => (intsD ds).map fun r => i :: r
  | _ :: _ => none
theorem ints_eq : ∀ {ds : List D} {ns : List Int}, intsD ds = some ns → ds = ns.map D.int
  | [], _, h => by cases h; rfl
  | .int i :: ds, _, h => by
    rw [intsD] at h
    cases e : intsD ds with
    | none =>
        rw [e] at h; cases h
    | some r => rw [e] at h; cases h; rw [ints_eq e]; rfl
  | .non :: _, _, h => by cases h
  | .bl _ :: _, _, h => by cases h
  | .str _ :: _, _, h => by cases h
  | .tup _ :: _, _, h => by cases h
  | .lst _ :: _, _, h => by cases h
  | .frz _ :: _, _, h => by cases h
  | .ref _ :: _, _, h => by cases h
  | .dct _ _ :: _, _, h => by cases h
  | .dctT _ _ :: _, _, h => by cases h
theorem ints_map : ∀ ns : List Int, intsD (ns.map D.int) = some ns
  | [] => rfl
  | n :: ns => by rw [List.map_cons, intsD, ints_map ns]; rfl
/-- ns ≤ ms, as tuples -/
def leT (ns ms : List Int) : Bool := Ob.lexAt (fun j => decide (ns.getD j 0 = ms.getD j 0)) (fun j => decide (ns.getD j 0 ≤ ms.getD j 0)) (decide (ns.length ≤ ms.length)) 0 (min ns.length ms.length)
def fLeM : F2 := fun a b _ k => match a, b with
  | .int i, .int j => k (.bl (decide (i ≤ j)))
  | .tup xs, .tup ys => match intsD xs, intsD ys with
    | some ns, some ms => k (.bl (leT ns ms))
    | _, _ => False
  | _, _ => False
def rLeM (K : PySem.W.Frag) : R2 := fun x y H Q => rI0 (fun i j => .bl (decide (i ≤ j))) x y H Q ∨ rLeT K x y H Q
theorem op_leM (hu : X.A.units + 64 < cLine) : OpR X (compareOp .LtE) (rLeM X.K) := op_le.or (op_leT (by omega))
theorem snd_le {K : PySem.W.Frag} : Snd2 K fLeM (rLeM K) := by
  intro W x y a b Q Qm rs ra rb k m
  unfold fLeM at m
  split at m
  · cases ra; cases rb
    exact .inl ⟨_, _, rfl, rfl, k W _ _ (Le.refl W) rs (.bl _) m⟩
  · split at m
    · rename_i ns ms e1 e2
      obtain ⟨a, vs, rfl, h1, h2⟩ := tup_of (K := K) ra
      obtain ⟨b, us, rfl, h3, h4⟩ := tup_of (K := K) rb
      rw [ints_eq e1] at h2
      rw [ints_eq e2] at h4
      rw [h2.of_ints] at h1
      rw [h4.of_ints] at h3
      exact .inr ⟨a, b, ns, ms, rfl, rfl, h1, h3, k W _ _ (Le.refl W) rs (.bl _) m⟩
    · exact m.elim
  · exact m.elim

/-! ### a, b, .. = a tuple or a list -/
theorem pg_or {t : Expr} {g g' : TG} (h : PG X t g) (h' : PG X t g') : PG X t fun v σ H Q => g v σ H Q ∨ g' v σ H Q := ⟨fun pins s σ H v u Q I r q => q.elim (h.run pins s σ H v u Q I r) (h'.run pins s σ H v u Q I r)⟩
def gQ (n : Nat) (gs : MGs) : MG := fun d ρ S Q => match asQ S d with
  | some ds => ds.length = n ∧ gs ds ρ S Q
  | none => False
theorem jg_seq {k0 n : Nat} {gs : MGs} (hc : X.calm = true) (h : JGs X es gs) (hn : (assignEach es X.env).length = n := by rfl) (hst : (assignEach es X.env).findIdx? (·.1) = none := by rfl) : JG X (.Tuple es k0 pos) (gQ n gs) :=
  ⟨pg_imp (pg_or (pg_unl hc h.pg hn hst) (pg_tup hc h.pg hn hst)) fun v σ H Q ⟨W, ρ, d, Qm, eH, rs, re, r, k, q⟩ => by
    subst eH
    unfold gQ at q
    split at q
    · rename_i ds e1
      obtain ⟨p, vs, rfl, h1, h2⟩ := asQ_of (K := X.K) rs r e1
      rcases h1 with h1 | h1
      · exact .inl ⟨p, vs, rfl, h1, h2.length.trans q.1, W, ρ, ds, Qm, rfl, rs, re, h2, k, q.2⟩
      · exact .inr ⟨p, vs, rfl, h1, h2.length.trans q.1, W, ρ, ds, Qm, rfl, rs, re, h2, k, q.2⟩
    · exact q.elim⟩

/-! ### min(xs), max(xs) of ints -/
def minL : List Int → Int
  | [] => 0
  | n :: ns => ns.foldl min n
def maxL : List Int → Int
  | [] => 0
  | n :: ns => ns.foldl max n
def fOne (g : List Int → Int) : FA := fun ds S k => match ds with
  | [d] => match asQ S d with
    | some xs => match intsD xs with
      | some ns => ns ≠ [] ∧ k (.int (g ns))
      | none => False
    | none => False
  | _ => False
def rOne (K : PySem.W.Frag) (g : List Int → Int) : List V → Hp → VK → Prop := fun vs H Q => ∃ (p : Addr) (ns : List Int), vs = [.ref p] ∧ (SqL K H p (ns.map V.int) ∨ SqT K H p (ns.map V.int)) ∧ ns ≠ [] ∧ Q (.int (g ns)) H
theorem snd_one {K : PySem.W.Frag} {g : List Int → Int} : SndA K (fOne g) (rOne K g) := by
  intro W xs ds Q Qm rs r k m
  unfold fOne at m
  split at m
  · split at m
    · rename_i ys e
      split at m
      · rename_i ns e2
        cases r with
        | cons r1 r2 =>
          cases r2
          obtain ⟨p, vs, rfl, h1, h2⟩ := asQ_of (K := K) rs r1 e
          rw [ints_eq e2] at h2
          rw [h2.of_ints] at h1
          exact ⟨p, ns, rfl, h1, m.1, k W _ _ (Le.refl W) rs (.int _) m.2⟩
      · exact m.elim
    · exact m.elim
  · exact m.elim
theorem reads_ints {h : Heap} : ∀ {ns : List Int} {us : List Value}, Vals (ns.map V.int) us → ReadsAll h us (ns.map PyData.int) []
  | [], _, .nil => .nil
  | n :: ns, _, .cons r t => by
    obtain ⟨k, rfl⟩ := r
    exact .cons (as := []) (bs := []) (.int n k) (reads_ints t)
theorem ints_alike (ns : List Int) : PySem.W.AlikeAll (ns.map PyData.int) := by
  refine ⟨fun x hx y hy => ?_, fun x hx => ?_⟩
  · obtain ⟨i, _, rfl⟩ := List.mem_map.mp hx
    obtain ⟨j, _, rfl⟩ := List.mem_map.mp hy
    rfl
  · obtain ⟨i, _, rfl⟩ := List.mem_map.mp hx
    exact fun z => nomatch z
theorem ints_depth : ∀ ns : List Int, PyData.depthAll (ns.map PyData.int) ≤ 1
  | [] => by decide
  | n :: ns => by
    rw [List.map_cons,
        PyData.depthAll]
    exact Nat.max_le.mpr ⟨by simp [PyData.depth], ints_depth ns⟩
theorem reads_int {h : Heap} {v : Value} {n : Int} {bs : List Addr} (r : Reads h v (.int n) bs) : RelV (.int n) v := by
  cases r
  exact ⟨_, rfl⟩
theorem call_minI (hc : X.calm = true) (hu : X.A.units + 64 < cLine) : CallR X (.builtin "min") (rOne X.K minL) := by
  rintro pins s σ H vs us Q I r ⟨p, ns, rfl, hs, hne, q⟩
  rw [Vals.ref1 r]
  cases ns with
  | nil => exact absurd rfl hne
  | cons n ns =>
    have hd := ints_depth (n :: ns)
    have ha := ints_alike (n :: ns)
    have e : PySem.W.minD (.int n) (ns.map .int) = .int (minL (n :: ns)) := PySem.W.minD_ints n ns
    rcases hs with hs | hs
    · obtain ⟨its, rv, hl, _⟩ := I.list hs
      refine PySem.W.min_list_data (as := []) (I.ok.hd hc) hl.isList (x := .int n) (xs := ns.map .int) (by simpa using reads_ints rv) (by simpa using ha) (by have z : PyData.depthAll (PyData.int n :: ns.map PyData.int) ≤ 1 := hd; omega) fun i v h' tk bs hi hr hk => ?_
      rw [e] at hr
      exact ⟨.int _, H, I.kept hk, reads_int hr, q⟩
    · obtain ⟨its, rv, hl, _⟩ := I.tuple hs
      have ht : s.heap.IsTuple p its.toArray := hl
      refine PySem.W.min_tuple_data (as := []) (I.ok.hd hc) ht (x := .int n) (xs := ns.map .int) (by simpa using reads_ints rv) (by simpa using ha) (by have z : PyData.depthAll (PyData.int n :: ns.map PyData.int) ≤ 1 := hd; omega) fun i v h' tk bs hi hr hk => ?_
      rw [e] at hr
      exact ⟨.int _, H, I.kept hk, reads_int hr, q⟩
theorem call_maxI (hc : X.calm = true) (hu : X.A.units + 64 < cLine) : CallR X (.builtin "max") (rOne X.K maxL) := by
  rintro pins s σ H vs us Q I r ⟨p, ns, rfl, hs, hne, q⟩
  rw [Vals.ref1 r]
  cases ns with
  | nil => exact absurd rfl hne
  | cons n ns =>
    have hd := ints_depth (n :: ns)
    have ha := ints_alike (n :: ns)
    have e : PySem.W.maxD (.int n) (ns.map .int) = .int (maxL (n :: ns)) := PySem.W.maxD_ints n ns
    rcases hs with hs | hs
    · obtain ⟨its, rv, hl, _⟩ := I.list hs
      refine PySem.W.max_list_data (as := []) (I.ok.hd hc) hl.isList (x := .int n) (xs := ns.map .int) (by simpa using reads_ints rv) (by simpa using ha) (by have z : PyData.depthAll (PyData.int n :: ns.map PyData.int) ≤ 1 := hd; omega) fun i v h' tk bs hi hr hk => ?_
      rw [e] at hr
      exact ⟨.int _, H, I.kept hk, reads_int hr, q⟩
    · obtain ⟨its, rv, hl, _⟩ := I.tuple hs
      have ht : s.heap.IsTuple p its.toArray := hl
      refine PySem.W.max_tuple_data (as := []) (I.ok.hd hc) ht (x := .int n) (xs := ns.map .int) (by simpa using reads_ints rv) (by simpa using ha) (by have z : PyData.depthAll (PyData.int n :: ns.map PyData.int) ≤ 1 := hd; omega) fun i v h' tk bs hi hr hk => ?_
      rw [e] at hr
      exact ⟨.int _, H, I.kept hk, reads_int hr, q⟩
end
end Mir
end

section
set_option Elab.async false
set_option linter.all false
set_option maxRecDepth 100000
set_option maxHeartbeats 2001000
/-! enumerate of a list or a tuple; dict displays. -/
namespace Mir
open PySem L2

set_option maxHeartbeats 1500000 in
theorem meets_enum1 {v : Value} {o : Obj} {H : Heap → Prop} (B : Begins v o H) :
    Meets (Builtin.«enumerate.__new__» ⟨[.type "enumerate", v], []⟩) (fun _ R s => H s.heap ∧
      R (.ok (.ret (.ref (s.heap.push o).objs.size))) { s with heap := (s.heap.push o).push { cls := .type "enumerate", data := .fields #[.none, .bool false, .ref s.heap.objs.size, rawInt 0, .none, .none] } }) :=
  .of_wp fun prog w A R s h =>
      by
    obtain ⟨hp, g, d, tk, os⟩ :=
        s; obtain ⟨h1, h⟩ := h
    have hsub := sub_enumerate
    have q1 : ∀ {A' : Around} {E : Value → Shared → Prop} {Q : Value → Shared → Prop}, Q (.ref hp.objs.size)
        ⟨hp.push o, g, d, tk, os⟩ → wpAny (model prog w) A' (pyIter v) Q E ⟨hp, g, d, tk, os⟩ :=
      fun q =>
          B.iter prog w _ _ ⟨hp, g, d, tk, os⟩ _ h1 q
    wp_walk using q1
    refine wpAny_stack_any fun st =>
        wpAny_pure ?_
    split
    · rename_i c _ _ _ _ _
      cases (c == Value.type
          "enumerate")
      · wp_walk using q1
        exact ⟨_, rfl, h⟩
      · wp_walk using q1
        exact ⟨_, rfl, h⟩
    · wp_walk using q1
      exact ⟨_, rfl, h⟩
section
variable {prog : Program} {w : World} {A :
    Around} {E : Value → Shared → Prop} {s : Shared}
theorem enum1 {v : Value} {o : Obj} {H : Heap → Prop} {Q : Value → Shared → Prop} (B : Begins v o H) (h1 : H s.heap)
    (h : ∀ h', IsEnum h' (s.heap.objs.size + 1) s.heap.objs.size 0 .none → h'.get? s.heap.objs.size = some o → h'.objs.size = s.heap.objs.size + 2 →
      (∀ b o, s.heap.get? b = some o → h'.get? b = some o)
          → Q (.ref (s.heap.objs.size + 1)) { s with heap := h' }) :
    wpAny (model prog w) A (call (.type "enumerate") [v]) Q E s := by
  refine callType_new F.called_enumerate (by decide) (F.typeCall_enumerate_1 _)
      (F.newCall_enumerate_1 _) (fun obj => F.args_object_init_2 obj _) F.entry_enumerate_new
    (meets_enum1 B) ⟨h1, ?_⟩
  have hz : (s.heap.push o).objs.size = s.heap.objs.size + 1 :=
      Heap.size_push ..
  show _ ∧ _
  rw [hz]
  have he : IsEnum ((s.heap.push o).push { cls := .type "enumerate", data := .fields #[.none, .bool false, .ref s.heap.objs.size, rawInt 0, .none, .none] }) (s.heap.objs.size + 1) s.heap.objs.size 0 .none := by
    have z := Heap.get?_push_size (s.heap.push o) (o := { cls := .type "enumerate", data := .fields #[.none, .bool false, .ref s.heap.objs.size, rawInt 0, .none, .none] }) rfl
    rw [hz] at z; exact z
  exact ⟨⟨_, he, rfl⟩, h _ he (Heap.get?_push_of_some _ (Heap.get?_push_size _ B.free)) (by rw [Heap.size_push, hz]) fun b o x => Heap.get?_push_of_some _ (Heap.get?_push_of_some _ x)⟩
end
/-- the tuple at a, each item in a new pair -/
def IteT (K : PySem.W.Frag) (a : Addr) : It :=
  ⟨fun i H => ∃ (xs : List V) (x : V), SqT K H a xs ∧ xs[i]? = some x, fun i H v H' => ∃ T x, v = .ref T ∧ H T = none ∧ H' = upd H T (.tup [.int (i : Nat), x]) ∧ ∀ xs, SqT K H a xs → xs[i]? = some x, fun i H => ∃ xs : List V, SqT K H a xs ∧ xs.length = i⟩
theorem turn_enumT {P : Program} {w : World} {K : PySem.W.Frag} {elts : List Expr} {kk : Nat} {tpos : Pos} (a e it : Addr) :
    Turn P w K (.Tuple elts kk tpos) (IteT K a) [e, it] e (fun i h => (∃ old, IsEnum h e it ((i : Nat) : Int) old) ∧ h.IsTupleIter it a i ∧ e ≠ it ∧ a ≠ it ∧ e ≠ a) where
  mem := by simp
  obj := fun i h st b hb => by
    obtain ⟨⟨old, he⟩, ⟨o, ho, hc, hd⟩, _⟩ :=
        st
    have e' : b = e ∨ b = it :=
        by simpa using hb
    rcases e' with z | z
    · rw [z]; exact ⟨_, he, fun v q =>
          nomatch q⟩
    · rw [z]; exact ⟨o, ho, fun v q =>
          by rw [hd] at q; cases q⟩
  keep := fun i h h' st k => let ⟨⟨old, he⟩, hi, hne⟩ := st;
      ⟨⟨old, k e (by simp) _ he⟩, hi.at fun o q => k it (by simp) o q, hne⟩
  item := by
    intro X hP hw hK hc i
        pins s σ H E I hf st hg
    subst hP hw hK
    obtain ⟨⟨old, he⟩, hit, hne, hai, hea⟩ := st
    obtain ⟨xs, x, hq, hx⟩ := hg
    obtain ⟨its, rv, p, hz⟩ :=
        I.tuple hq
    obtain ⟨u, hu, ru⟩ :=
        rv.get hx
    have hT0 : s.heap.IsTuple a its.toArray := p
    have hel : e < s.heap.objs.size :=
        Heap.lt_size he
    have hil : it < s.heap.objs.size :=
        by obtain ⟨_, q, _⟩ := hit; exact Heap.lt_size q
    have hlt : i < its.toArray.size := by
      have z := (List.getElem?_eq_some_iff.mp hu).1
      simpa using z
    refine wpAny_pyNext_enum_itemD (Draws.tuple (A := X.A.in1) (I.ok.hd hc) it a hai its.toArray) he ⟨hit, hT0⟩ hlt hne (by simp [hne, hea]) fun y h' tk hy ho hst' hT hsz hk => ?_
    have ey : u = y := by
      have z : its[i]? = some y := by simpa using hy
      rw [hu] at z; exact Option.some.inj z
    subst ey
    refine ⟨_, rfl, wpAny_letOwnedTupleGo_enum (s := { s with heap := h', toks := tk + 1 }) ho fun h'' he' sb => ?_⟩
    have hT2 : h''.get? s.heap.objs.size = some { cls := .type "tuple", data := .seq #[.int i tk, u] } := (sb.2 _ (Nat.ne_of_gt hel)).trans hT
    have new : ObjOk X.prog X.w (upd H s.heap.objs.size (.tup [.int (i : Nat),
        x])) h'' s.heap.objs.size (.tup [.int (i : Nat), x]) :=
      ⟨by show 2 ≤ sizeLine; decide, [.int i tk, u], .cons ⟨_, rfl⟩ (.cons ru .nil), ⟨_, hT2, rfl, _, rfl⟩⟩
    have I1 : Inv X pins σ (upd H s.heap.objs.size (.tup [.int (i : Nat), x])) { s with heap := h'', toks := tk + 1 } :=
      I.turnedNew (ch := [e, it]) (fun b ob hb q => (sb.2 b (fun z => hb (by simp [z]))).trans (hk b ob (fun z =>
          hb (by simp [z])) (fun z => hb (by simp [z])) q)) hf (Nat.le_refl _) new
    refine ⟨.ref s.heap.objs.size, _, I1, rfl, ⟨_, x, rfl, I.hok.fresh (Nat.le_refl _), rfl, fun ys hy => by rw [I.tuple_inj hy hq]; exact hx⟩, ⟨⟨u, ?_⟩, hst'.1.at fun o q => (sb.2 it (Ne.symm hne)).trans q, hne, hai, hea⟩, fun b hb => ?_⟩
    · have e1 : ((i + 1 : Nat) : Int)
          = (i : Int) + 1 := by omega
      rw [e1]; exact he'
    · have hb' : b < s.heap.objs.size :=
          by
        have e' : b = e ∨ b = it :=
            by simpa using hb
        rcases e' with z | z
        · rw [z]; exact hel
        · rw [z]; exact hil
      rw [upd_ne
          (Nat.ne_of_lt hb')]
      exact (hf b hb).1
  done := by
    intro X hP hw hK hc i
        pins s σ H E I hf st hg
    subst hP hw hK
    obtain ⟨⟨old, he⟩, hit, hne, hai, hea⟩ := st
    obtain ⟨xs, hq, hx⟩ := hg
    obtain ⟨its, rv, p, hz⟩ :=
        I.tuple hq
    have hT0 : s.heap.IsTuple a its.toArray := p
    obtain ⟨f0, f1, f2, f3, f4, f5⟩ :=
        hf it (by simp)
    have hl : its.toArray.size = i := by have := rv.length; simp; omega
    subst hl
    exact wpAny_pyNext_enum_endD (Draws.tuple (A := X.A.in1) (I.ok.hd hc) it a hai its.toArray) he ⟨hit, hT0⟩ fun h' eb => ⟨rfl, I.turned (t' := s.toks) (fun b o hb q => eb b o hb q) f0 f1 f3 f4 f5⟩
  self := fun A i s Q E st h =>
      let ⟨⟨_, he⟩, _⟩ := st; wpAny_pyIter_enum he h
def iEnumA (K : PySem.W.Frag) (ta : TA) : TI := fun σ H R => ta σ H fun vs H1 => ∃ a xs, vs = [.ref a] ∧ ((SqL K H1 a xs ∧ R (Ite K a) H1) ∨ (SqT K H1 a xs ∧ R (IteT K a) H1))
theorem pi_enumA {X : Cx} {e : Expr} {ta : TA} {p pos tpos : Pos} {elts : List Expr} {kk : Nat} (hg : Gl X "enumerate") (hm : X.mg "enumerate" = none) (ha : PA X [e] ta) (hs : starEach [e] X.env = [(false, eval e X.env)] := by rfl) :
    PI X (.Tuple elts kk tpos) (.Call (.Name "enumerate" p) [e] [] pos) (iEnumA X.K ta) := by
  refine ⟨fun pins s σ H R I h =>
      ?_⟩
  refine PyProof.Rows.Call_ (ld_blt I hg hm PyProof.Rows.boot_enumerate (PyProof.Rows.callWith_type1 (thn (ha.run pos pins s σ H _ I h) fun us s1 ⟨vs, H1, I1, r1, q1⟩ => ?_) hs rfl))
  obtain ⟨a, xs, ex, hq⟩ := q1
  subst ex
  cases r1 with
  | cons r rr =>
    cases rr
    cases r
    have fr : ∀ b ∈ [s1.heap.objs.size + 1, s1.heap.objs.size], FpOk X pins H1 b := fun b hb => by
      have e' : b = s1.heap.objs.size + 1 ∨ b = s1.heap.objs.size :=
          by simpa using hb
      have hle : s1.heap.objs.size ≤ b :=
          by
        rcases e' with z | z
        · rw [z];
              exact Nat.le_add_right _ _
        · rw [z]; exact Nat.le_refl _
      exact I1.fpOk hle
          (I1.hok.fresh hle)
    rcases hq with ⟨hq, q⟩ | ⟨hq, q⟩
    · obtain ⟨its, rv, p', hz⟩ :=
          I1.list hq
      refine call_enumerate_list p'.isList fun h' he hit hsz hk =>
          wpAny_pyIter_enum he ?_
      have I2 : Inv X pins σ H1 { s1 with heap :=
          h' } := I1.kept (t' := s1.toks) hk
      exact ⟨s1.heap.objs.size + 1, [s1.heap.objs.size + 1, s1.heap.objs.size], _, _, H1, rfl, I2, turn_enum a (s1.heap.objs.size + 1) s1.heap.objs.size, ⟨⟨.none, he⟩, hit, Nat.succ_ne_self _⟩, fr, q⟩
    · obtain ⟨its, rv, p', hz⟩ :=
          I1.tuple hq
      have ht : s1.heap.IsTuple a its.toArray := p'
      have hlt : a < s1.heap.objs.size := by obtain ⟨_, z, _⟩ := ht; exact Heap.lt_size z
      refine enum1 (begins_tuple a its.toArray) ht fun h' he hit hsz hk => wpAny_pyIter_enum he ?_
      have I2 : Inv X pins σ H1 { s1 with heap :=
          h' } := I1.kept (t' := s1.toks) hk
      exact ⟨s1.heap.objs.size + 1, [s1.heap.objs.size + 1, s1.heap.objs.size], _, _, H1, rfl, I2, turn_enumT a (s1.heap.objs.size + 1) s1.heap.objs.size, ⟨⟨.none, he⟩, ⟨_, hit, rfl, rfl⟩, Nat.succ_ne_self _, Nat.ne_of_lt hlt, Ne.symm (Nat.ne_of_lt (Nat.lt_succ_of_lt hlt))⟩, fr, q⟩
/-- pairs of a place and an item -/
def enD (xs : List D) : List D := xs.zipIdx.map fun z => .tup [.int (z.2 : Nat), z.1]
theorem enD_get {xs : List D} {i : Nat} {d : D} : (enD xs)[i]? = some d ↔ ∃ x, xs[i]? = some x ∧ d = .tup [.int (i : Nat), x] := by
  unfold enD
  rw [List.getElem?_map, List.getElem?_zipIdx]
  cases e : xs[i]? with
  | none => simp
  | some x =>
    simp only [Option.map_some, Option.some.injEq, Nat.zero_add]
    constructor
    · rintro rfl; exact ⟨x, rfl, rfl⟩
    · rintro ⟨y, rfl, rfl⟩; rfl
theorem enD_len (xs : List D) : (enD xs).length = xs.length := by unfold enD; rw [List.length_map, List.length_zipIdx]
def mEnum (ms : Mr (List D)) : Mr Pk := fun ρ S Q X => ms ρ S (fun ds S1 => match ds with
  | [d] => match walkD S1 d with
    | some p => Q (enD p.1, p.2) S1
    | none => False
  | _ => False) X
theorem jr_en {W : Wd} {J : It} {ds : List D} {Kp : Store → Prop} (h : ∀ W', Le W W' → RS K W' → Kp W'.S → ∃ vs, RDs W' vs ds ∧ (∀ i v, vs[i]? = some v → J.go i W'.H ∧ ∀ x H', J.yld i W'.H x H' → ∃ T, x = .ref T ∧ W'.H T = none ∧ H' = upd W'.H T (.tup [.int (i : Nat), v])) ∧ J.stop vs.length W'.H) : JR K W J (enD ds) Kp := by
  intro W' l rs hk
  obtain ⟨vs, r, hg, hst⟩ := h W' l rs hk
  refine ⟨fun i d e => ?_, by rw [enD_len, ← r.length]; exact hst⟩
  obtain ⟨x, hx, rfl⟩ := enD_get.mp e
  obtain ⟨v, hv, rv⟩ := r.get hx
  obtain ⟨g1, g2⟩ := hg i v hv
  refine ⟨g1, fun y H' hy => ?_⟩
  obtain ⟨T, rfl, hT, rfl⟩ := g2 y H' hy
  exact ⟨W'.add T (.tup [.int (i : Nat), v]), rfl, rfl, Le.add rs hT, rs.add hT, new_tup rs hT (.cons (.int _) (.cons rv .nil))⟩
theorem en_walk {K : PySem.W.Frag} {W : Wd} (rs : RS K W) {v : V} {d : D} {p : Pk} (r : RD W v d) (h : walkD W.S d = some p) :
    ∃ a, v = .ref a ∧ (((∃ xs, SqL K W.H a xs) ∧ JR K W (Ite K a) (enD p.1) p.2) ∨ ((∃ xs, SqT K W.H a xs) ∧ JR K W (IteT K a) (enD p.1) p.2)) := by
  have lists : ∀ {a : Addr} {ds : List D} {Kp : Store → Prop}, (∀ W', Le W W' → RS K W' → Kp W'.S → ∃ vs, SqL K W'.H a vs ∧ RDs W' vs ds) → JR K W (Ite K a) (enD ds) Kp := fun h => jr_en fun W' l rs' hk => by
    obtain ⟨vs, h1, h2⟩ := h W' l rs' hk
    refine ⟨vs, h2, fun i v e => ⟨⟨vs, v, h1, e⟩, ?_⟩, ⟨vs, h1, Nat.le_refl _⟩⟩
    rintro x H' ⟨T, y, rfl, hT, rfl, hy⟩
    have z := hy vs h1
    rw [e] at z; cases z
    exact ⟨T, rfl, hT, rfl⟩
  have tups : ∀ {a : Addr} {ds : List D} {Kp : Store → Prop}, (∀ W', Le W W' → RS K W' → Kp W'.S → ∃ vs, SqT K W'.H a vs ∧ RDs W' vs ds) → JR K W (IteT K a) (enD ds) Kp := fun h => jr_en fun W' l rs' hk => by
    obtain ⟨vs, h1, h2⟩ := h W' l rs' hk
    refine ⟨vs, h2, fun i v e => ⟨⟨vs, v, h1, e⟩, ?_⟩, ⟨vs, h1, rfl⟩⟩
    rintro x H' ⟨T, y, rfl, hT, rfl, hy⟩
    have z := hy vs h1
    rw [e] at z; cases z
    exact ⟨T, rfl, hT, rfl⟩
  cases r with
  | tup h1 h2 h3 =>
    cases h
    exact ⟨_, rfl, .inr ⟨⟨_, .inl (.inl h1)⟩, tups fun W' l rs' _ => ⟨_, .inl (.inl (l.k _ _ h1 h2).1), h3.mono l⟩⟩⟩
  | lst h1 h2 h3 =>
    cases h
    exact ⟨_, rfl, .inl ⟨⟨_, .inl (.inl h1)⟩, lists fun W' l rs' _ => ⟨_, .inl (.inl (l.k _ _ h1 h2).1), h3.mono l⟩⟩⟩
  | frz h1 h3 =>
    cases h
    exact ⟨_, rfl, .inl ⟨⟨_, h1.sq rs⟩, lists fun W' l rs' _ => ⟨_, (h1.mono l).sq rs', h3.mono l⟩⟩⟩
  | ref l hl =>
    have h' : ((W.S l).bind fun o => match o with
      | .lst xs => some ((xs, fun T => T l = some (.lst xs)) : Pk)
      | _ => none) = some p := h
    cases e : W.S l with
    | none =>
        rw [e] at h'; cases h'
    | some o =>
      rw [e] at h'
      cases o with
      | lst xs =>
        cases h'
        obtain ⟨vs, h1, h2⟩ := rs.obj _ _ e
        refine ⟨_, rfl, .inl ⟨⟨_, .inl (.inl h1)⟩, lists fun W' l' rs' hk => ?_⟩⟩
        obtain ⟨us, h3, h4⟩ := rs'.obj _ _ hk
        rw [l'.μ _ hl] at h3
        exact ⟨us, .inl (.inl h3), h4⟩
      | _ => cases h'
  | _ => cases h
theorem ji_enum {X : Cx} {e : Expr} {p pos tpos : Pos} {elts : List Expr} {kk : Nat} {ms : Mr (List D)} (ha : JA X [e] ms) (hm : X.mg "enumerate" = none) (hg : Gl X "enumerate" := by rfl) (hs : starEach [e] X.env = [(false, eval e X.env)] := by rfl) :
    JI X (.Tuple elts kk tpos) (.Call (.Name "enumerate" p) [e] [] pos) (mEnum ms) := ⟨fun Wx tk => pi_imp (pi_enumA hg hm (ha.pa Wx tk) hs) fun σ H R ⟨W, ρ, Qm, Xm, eH, rs, re, xr, k, q⟩ => by
  subst eH
  refine ⟨W, ρ, _, Xm, rfl, rs, re, xr, fun W1 vs ds l rs1 r1 q1 => ?_, q⟩
  split at q1
  · split at q1
    · rename_i p e1
      cases r1 with
      | cons r2 r3 =>
        cases r3
        obtain ⟨a, rfl, ⟨⟨xs, h1⟩, jr⟩ | ⟨⟨xs, h1⟩, jr⟩⟩ := en_walk (K := X.K) rs1 r2 e1
        · exact ⟨a, xs, rfl, .inl ⟨h1, k W1 _ _ l rs1 jr q1⟩⟩
        · exact ⟨a, xs, rfl, .inr ⟨h1, k W1 _ _ l rs1 jr q1⟩⟩
    · exact q1.elim
  · exact q1.elim⟩
end Mir
end

section
set_option Elab.async false
set_option linter.all false
set_option maxRecDepth 100000
set_option maxHeartbeats 2001000
/-! Dict displays; dicts known by a property alone. -/
namespace Mir
open PySem L2

section
variable {X : Cx} {a b c e o i : Expr} {ma mb mc me mo mi : Mr D} {pos p : Pos} {es : List Expr} {ms mk : Mr (List D)}
/-! ### {k: v, ..} -/
def mPairs : List (Mr D × Mr D) → Mr (List (D × D))
  | [] => fun _ S Q _ => Q [] S
  | (mk, mv) :: r => fun ρ S Q X => mk ρ S (fun x S1 => mv ρ S1 (fun y S2 => mPairs r ρ S2 (fun ps S3 => Q ((x, y) :: ps) S3) X) X) X
abbrev RPs (W : Wd) : List (V × V) → List (D × D) → Prop := Paired fun p q => RD W p.1 q.1 ∧ RD W p.2 q.2
structure JP (X : Cx) (pos : Pos) (keys : List (Option Expr)) (values : List Expr) (trs : List (Mr D × Mr D)) : Prop where
  pp : ∀ Wx, Takes X Wx → PPs X pos keys values (trs.map fun t => (tE X.K t.1 Wx, tE X.K t.2 Wx))
theorem jp_nil : JP X pos [] [] [] := ⟨fun _ _ => pps_nil⟩
theorem jp_cons {k v : Expr} {ks : List (Option Expr)} {vs : List Expr} {mk mv : Mr D} {trs : List (Mr D × Mr D)} (hk : JE X k mk) (hv : JE X v mv) (hr : JP X pos ks vs trs) : JP X pos (some k :: ks) (v :: vs) ((mk, mv) :: trs) :=
  ⟨fun Wx tk => pps_cons (hk.pe Wx tk) (hv.pe Wx tk) (hr.pp Wx tk)⟩
theorem pairs_of {Wx : WX} : ∀ {trs : List (Mr D × Mr D)} {W : Wd} {ρ : Env} {σ : St} {Xm : XC} {Q : List (V × V) → Hp → Prop} {Qm : List (D × D) → Store → Prop}, RS K W → RE W σ ρ → XR K W σ Wx Xm → Cont K W RPs Q Qm → mPairs trs ρ W.S Qm Xm → tPairs (trs.map fun t => (tE K t.1 Wx, tE K t.2 Wx)) σ W.H Q
  | [], W, ρ, σ, Xm, Q, Qm, rs, re, xr, k, m => k W [] [] (Le.refl W) rs .nil m
  | (mk, mv) :: r, W, ρ, σ, Xm, Q, Qm, rs, re, xr, k, m => by
    refine ⟨W, ρ, _, Xm, rfl, rs, re, xr, fun W1 x d l1 rs1 r1 m1 => ?_, m⟩
    refine ⟨W1, ρ, _, Xm, rfl, rs1, re.mono l1, xr.mono l1, fun W2 y d' l2 rs2 r2 m2 => ?_, m1⟩
    exact pairs_of (Qm := fun ps S3 => Qm ((d, d') :: ps) S3) rs2 (re.mono (l1.trans l2)) (xr.mono (l1.trans l2)) (fun W3 ps ds l3 rs3 r3 m3 => k W3 _ _ ((l1.trans l2).trans l3) rs3 (.cons ⟨r1.mono (l2.trans l3), r2.mono l3⟩ r3) m3) m2
def keysD : List (D × D) → Option (List (Key × D))
  | [] => some []
  | (a, d) :: r => match keyD a, keysD r with
    | some k, some q => some ((k, d) :: q)
    | _, _ => none
theorem keys_of {W : Wd} : ∀ {ps : List (V × V)} {ds : List (D × D)} {kvs : List (Key × D)}, RPs W ps ds → keysD ds = some kvs → ∃ ks : List (Key × V), ps = ks.map (fun kv => (kV kv.1, kv.2)) ∧ RK W ks kvs
  | _, _, _, .nil, h => by cases h; exact ⟨[], rfl, .nil⟩
  | (x, y) :: ps, (a, d) :: ds, kvs, .cons ⟨r1, r2⟩ t, h => by
    unfold keysD at h
    split at h
    · rename_i k q e1 e2
      cases h
      obtain ⟨ks, e3, e4⟩ := keys_of t e2
      have e5 := key_of r1 e1
      dsimp only at e5
      subst e5
      exact ⟨(k, y) :: ks, by rw [e3]; rfl, .cons ⟨rfl, r2⟩ e4⟩
    · cases h
def mergeD (kvs more : List (Key × D)) : List (Key × D) := more.foldl (fun acc kv => stor acc kv.1 kv.2) kvs
theorem merge_RK {W : Wd} : ∀ {more : List (Key × V)} {moreD : List (Key × D)} {a : List (Key × V)} {b : List (Key × D)}, RK W more moreD → RK W a b → RK W (mergeK a more) (mergeD b moreD)
  | _, _, _, _, .nil, h => h
  | (k, v) :: m, (k', d) :: md, a, b, .cons ⟨e, r⟩ t, h => by
    have e' : k = k' := e
    subst e'
    exact merge_RK (more := m) (moreD := md) t (RK.put r h)
def mDisp (trs : List (Mr D × Mr D)) : Mr D := fun ρ S Q X => ∀ l, S l = none → mPairs trs ρ (put S l (.dk [])) (fun ps S2 => S2 l = some (.dk []) ∧ match keysD ps with
  | some kvs => kvs.length ≤ 15 ∧ Q (.ref l) (put S2 l (.dk (mergeD [] kvs)))
  | none => False) X
theorem je_disp {keys : List (Option Expr)} {values : List Expr} {trs : List (Mr D × Mr D)} (h : JP X pos keys values trs) (hall : keys.all (·.isSome) = true := by rfl) (hl : keys.length = values.length := by rfl) (h0 : keys ≠ [] := by exact fun z => nomatch z) (h15 : keys.length ≤ 15 := by decide) : JE X (.Dict keys values pos) (mDisp trs) :=
  ⟨fun Wx tk => pe_imp (pe_disp (h.pp Wx tk) hall hl h0 h15) fun σ H Q ⟨W, ρ, Qm, Xm, eH, rs, re, xr, k, q⟩ => by
    subst eH
    intro a ha
    have q1 := q W.n rs.fresh
    have rs1 : RS X.K (W.new a (.dK []) (.dk [])) := rs.new ha ⟨[], upd_same, .nil⟩
    have l1 : Le W (W.new a (.dK []) (.dk [])) := Le.new rs ha
    refine pairs_of (W := W.new a (.dK []) (.dk [])) rs1 (re.mono l1) (xr.mono l1) (fun W2 ps ds l2 rs2 r2 m2 => ?_) q1
    obtain ⟨e1, m3⟩ := m2
    split at m3
    · rename_i kvs e2
      obtain ⟨ks, e3, e4⟩ := keys_of r2 e2
      obtain ⟨ks0, h0', r0⟩ := rs2.obj _ _ e1
      cases r0
      have ea : W2.μ W.n = a := by rw [l2.μ _ (Nat.lt_succ_self _), new_lab]
      rw [ea] at h0'
      refine ⟨h0', ks, e3, by rw [RK.len e4]; exact m3.1, ?_⟩
      have lw : Le W2 (W2.wr W.n (.dK (mergeK [] ks)) (.dk (mergeD [] kvs))) := Le.wr e1
      have z := k (W2.wr W.n (.dK (mergeK [] ks)) (.dk (mergeD [] kvs))) (.ref a) (.ref W.n) ((l1.trans l2).trans lw) (rs2.wr e1 ⟨_, upd_same, (merge_RK e4 .nil).mono lw⟩) (by
        have y := RD.ref (W := W2.wr W.n (.dK (mergeK [] ks)) (.dk (mergeD [] kvs))) W.n (rs2.dom _ _ e1)
        have ey : (W2.wr W.n (.dK (mergeK [] ks)) (.dk (mergeD [] kvs))).μ W.n = a := ea
        rw [ey] at y; exact y) m3.2
      have eh : (W2.wr W.n (.dK (mergeK [] ks)) (.dk (mergeD [] kvs))).H = upd W2.H a (.dK (mergeK [] ks)) := by show upd W2.H (W2.μ W.n) _ = _; rw [ea]
      rw [eh] at z; exact z
    · exact m3.elim⟩
/-- {} -/
def mDNew : Mr D := fun _ S Q _ => ∀ l, S l = none → Q (.ref l) (put S l (.dk []))
theorem je_dnew : JE X (.Dict [] [] pos) mDNew := ⟨fun Wx _ => pe_imp pe_dnewK fun σ H Q ⟨W, ρ, Qm, Xm, eH, rs, re, xr, k, q⟩ => by
  subst eH
  exact k.new (o := .dk []) rs (fun p hp => ⟨[], upd_same, .nil⟩) q⟩
def mDNewT : Mr D := fun _ S Q _ => ∀ l, S l = none → Q (.ref l) (put S l (.dt []))
theorem je_dnewT : JE X (.Dict [] [] pos) mDNewT := ⟨fun Wx _ => pe_imp pe_dnewT fun σ H Q ⟨W, ρ, Qm, Xm, eH, rs, re, xr, k, q⟩ => by
  subst eH
  exact k.new (o := .dt []) rs (fun p hp => ⟨[], upd_same, .nil⟩) q⟩

/-! ### a dict known by a property alone -/
/-- a label's object is told otherwise, the heap stays -/
def Wd.say (W : Wd) (l : Nat) (o : O) : Wd := { W with S := put W.S l o }
theorem live_say {W : Wd} {l : Nat} {o q : O} (e : W.S l = some q) {a : Addr} : Live (W.say l o) a → Live W a := by
  rintro ⟨k, r, hk, ha⟩
  by_cases h : k = l
  · subst h; exact ⟨k, q, e, ha⟩
  · have z : put W.S l o k = some r := hk
    rw [put_ne h] at z
    exact ⟨k, r, z, ha⟩
theorem Le.say {W : Wd} {l : Nat} {o q : O} (e : W.S l = some q) : Le W (W.say l o) := ⟨Nat.le_refl _, fun _ _ => rfl, fun _ _ h n _ => ⟨h, fun x => n (live_say e x)⟩, rfl, rfl⟩
theorem RS.say {W : Wd} (R : RS K W) {l : Nat} {o q : O} (e : W.S l = some q) (hu : RO (W.say l o) (W.μ l) o) : RS K (W.say l o) := by
  have key : ∀ k r, (W.say l o).S k = some r → (k = l ∧ r = o) ∨ (k ≠ l ∧ W.S k = some r) := fun k r h => by
    by_cases hk : k = l
    · subst hk
      have z : put W.S k o k = some r := h
      rw [put_same] at z
      exact .inl ⟨rfl, (Option.some.inj z).symm⟩
    · have z : put W.S l o k = some r := h
      rw [put_ne hk] at z
      exact .inr ⟨hk, z⟩
  have old : ∀ k r, (W.say l o).S k = some r → ∃ r', W.S k = some r' := fun k r h => by
    rcases key k r h with ⟨rfl, _⟩ | ⟨_, z⟩
    · exact ⟨q, e⟩
    · exact ⟨r, z⟩
  refine ⟨fun k r h => ?_, fun k r h => ?_, fun k k' r r' h h' z => ?_, R.kl, R.tb⟩
  · obtain ⟨r', z⟩ := old k r h; exact R.dom k r' z
  · rcases key k r h with ⟨rfl, rfl⟩ | ⟨hk, z⟩
    · exact hu
    · exact (R.obj k r z).keep (Le.say e) fun v w => w
  · obtain ⟨s, h⟩ := old k r h
    obtain ⟨s', h'⟩ := old k' r' h'
    exact R.inj k k' s s' h h' z
/-- from now on only P is known of the dict -/
def mToOrc (P : List (Key × D) → Prop) (me : Mr D) : Mr D := fun ρ S Q X => me ρ S (fun d S1 => match d with
  | .ref l => match S1 l with
    | some (.dk kvs) => P kvs ∧ Q (.ref l) (put S1 l (.orc P))
    | _ => False
  | _ => False) X
theorem je_orc {P : List (Key × D) → Prop} (h : JE X e me) : JE X e (mToOrc P me) := ⟨fun Wx tk => pe_imp (h.pe Wx tk) fun σ H Q ⟨W, ρ, Qm, Xm, eH, rs, re, xr, k, q⟩ => ⟨W, ρ, _, Xm, eH, rs, re, xr, fun W1 v d l rs1 r1 q1 => by
  cases r1 with
  | ref lab hl =>
    have q2 : match W1.S lab with
      | some (.dk kvs) => P kvs ∧ Qm (.ref lab) (put W1.S lab (.orc P))
      | _ => False := q1
    split at q2
    · rename_i kvs e1
      obtain ⟨ks, h1, h2⟩ := rs1.obj _ _ e1
      exact k (W1.say lab (.orc P)) _ _ (l.trans (Le.say e1)) (rs1.say e1 ⟨ks, kvs, h1, h2.mono (Le.say e1), q2.1⟩) (.ref (W := W1.say lab (.orc P)) lab hl) q2.2
    · exact q2.elim
  | _ => exact q1.elim, q⟩⟩
/-- a def whose first argument is such a dict: P goes on to hold -/
def orcF (F : MF) : MF := fun ds S Q _ => ∃ (l : Nat) (P P' : List (Key × D) → Prop) (r : List D), ds = .ref l :: r ∧ S l = some (.orc P) ∧ ∀ kvs, P kvs → F ds (put S l (.dk kvs)) (fun d S' => ∃ kvs', S' l = some (.dk kvs') ∧ P' kvs' ∧ Q d (put S' l (.orc P'))) fun _ _ _ => False
theorem FnG.orc {P : Program} {w : World} {K : PySem.W.Frag} {mg : Str → Option Value} {base : Heap} {k : Nat} {f : Addr} {n : Nat} {ks : List Str} {F : MF} (h : FnG P w K mg base k f n ks F) : FnG P w K mg base k f n ks (orcF F) := by
  rintro A outer s H us vs Q E hg hr e0 rv hl ⟨W, ds, Qm, Xm, rfl, rs, rd, kq, kx, lab, Pd, Pe, r, rfl, e1, m⟩
  obtain ⟨ks', kvs, h1, h2, h3⟩ := rs.obj _ _ e1
  have l1 : Le W (W.say lab (.dk kvs)) := Le.say e1
  refine h A outer s W.H us vs Q E hg hr e0 rv hl ⟨W.say lab (.dk kvs), _, _, _, rfl, rs.say e1 ⟨ks', h1, h2.mono l1⟩, rd.mono l1, ?_, ?_, m kvs h3⟩
  · rintro W2 v d l2 rs2 r2 ⟨kvs', e2, p2, q2⟩
    obtain ⟨ks2, h4, h5⟩ := rs2.obj _ _ e2
    have l3 : Le W2 (W2.say lab (.orc Pe)) := Le.say e2
    exact kq (W2.say lab (.orc Pe)) v d ((l1.trans l2).trans l3) (rs2.say e2 ⟨ks2, kvs', h4, h5.mono l3, p2⟩) (r2.mono l3) q2
  · exact fun _ _ _ _ _ _ _ _ _ _ q => q.elim
end
end Mir
end

section
set_option Elab.async false
set_option linter.all false
set_option maxRecDepth 100000
set_option maxHeartbeats 2001000
namespace Mir
open PySem
open PySem.Sem (wp)
structure Src where
  it : Addr
  a : Addr
  k : Bool
def Src.st (c : Src) (i : Nat) (h : Heap) : Prop := match c.k with
  | true => h.IsListIter c.it c.a i
  | false => h.IsTupleIter c.it c.a i
def Src.sq (c : Src) (items : Array Value) (h : Heap) : Prop := match c.k with
  | true => h.IsList c.a items
  | false => h.IsTuple c.a items
theorem Src.st_at {c : Src} {i : Nat} {h h' : Heap} (x : c.st i h) (k : ∀ o, h.get? c.it = some o → h'.get? c.it = some o) : c.st i h' := by
  obtain ⟨it, a, b⟩ := c
  cases b
  · exact Heap.IsTupleIter.at (show h.IsTupleIter it a i from x) k
  · exact Heap.IsListIter.at (show h.IsListIter it a i from x) k
theorem Src.sq_at {c : Src} {items : Array Value} {h h' : Heap} (x : c.sq items h) (k : ∀ o, h.get? c.a = some o → h'.get? c.a = some o) : c.sq items h' := by
  obtain ⟨it, a, b⟩ := c
  cases b
  · exact Heap.IsTuple.at (show h.IsTuple a items from x) k
  · exact Heap.IsList.at (show h.IsList a items from x) k
abbrev IsZipA (h : Heap) (z TI TO : Addr) (f0 f1 : Value) : Prop :=
  h.get? z = some { cls := .type "zip", dict := none, data := .fields #[f0, f1, .bool false, .ref TI, .ref TO], slots := #[] }
abbrev IsTupA (h : Heap) (T : Addr) (vs : Array Value) : Prop := h.get? T = some { cls := .type "tuple", data := .seq vs }
section
variable {prog : Program} {w : World} {A :
    Around} {E : Value → Shared → Prop} {s : Shared}
theorem Src.item {c : Src} {i : Nat} {items : Array Value} {x : Value} {Q : Value → Shared → Prop} (h1 : c.st i s.heap) (h2 : c.sq items s.heap) (hx : items[i]? = some x)
    (hQ : ∀ h', c.st (i + 1) h' → Heap.SameBut c.it s.heap h' → Q x { s with heap := h' }) : wpAny (model prog w) A (Builtin.SmallTypes.nextOf (.ref c.it)) Q E s := by
  obtain ⟨it, a, b⟩ := c
  cases b
  · exact RZ.nextOf_tuple_item (show s.heap.IsTupleIter it a i from h1) (show s.heap.IsTuple a items from h2) hx hQ
  · exact wpAny_nextOf_list_item (show s.heap.IsListIter it a i from h1) (show s.heap.IsList a items from h2) hx hQ
theorem Src.fin {c : Src} {i : Nat} {items : Array Value} {Q : Value → Shared → Prop} (hh : A.handled = none) (h1 : c.st i s.heap) (h2 : c.sq items s.heap) (hx : items[i]? = none)
    (hE : ∀ h' e, Heap.ExtBut c.it s.heap h' → (∃ o, h'.get? e = some o ∧ o.cls = .type "StopIteration") → E (.ref e) { s with heap := h' }) : wpAny (model prog w) A (Builtin.SmallTypes.nextOf (.ref c.it)) Q E s := by
  obtain ⟨it, a, b⟩ := c
  cases b
  · exact RZ.nextOf_tuple_end hh (show s.heap.IsTupleIter it a i from h1) (show s.heap.IsTuple a items from h2) hx hE
  · exact wpAny_nextOf_list_end hh (show s.heap.IsListIter it a i from h1) (show s.heap.IsList a items from h2) hx hE
structure ZA (z TI TO : Addr) (cs : List Src) : Prop where
  zt : z ≠ TI
  zo : z ≠ TO
  to : TI ≠ TO
  i : ∀ c ∈ cs, c.it ≠ z ∧ c.it ≠ TI ∧ c.it ≠ TO
  nd : (cs.map Src.it).Nodup
  a : ∀ c ∈ cs, c.a ≠ z ∧ c.a ≠ TO ∧ ∀ d ∈ cs, c.a ≠ d.it
abbrev itsOf (cs : List Src) : Array Value := (cs.map fun c => Value.ref c.it).toArray

theorem upd_at {T : Addr} {vs : Array Value} {x : Value} {k : Nat} {Q : Unit → Shared → Prop} (hs : vs.size ≤ 1000) (hT : IsTupA s.heap T vs) (h : ∀ h', IsTupA h' T (vs.setIfInBounds k x) → Heap.SameBut T s.heap h' → Q () { s with heap := h' }) :
    wpAny (model prog w)
        A (updateSeq T (·.setIfInBounds k x)) Q E s := by
  have big : vs.size ≤ sizeLine := Nat.le_trans hs (by decide)
  refine wpAny_updateSeq hT rfl (h _ ?_ (Heap.SameBut.update ..)) big (by simp; omega)
  show (s.heap.update T _).get? T = _
  rw [Heap.get?_update_self
      _ hT rfl]
  simp [Obj.mapSeq]
theorem alive_at {a : Addr} {Q : Option Obj → Shared → Prop} (h : Q (s.heap.get? a) s) : wpAny (model prog w) A (loadIfAlive a) Q E s := fun Γ p _ => by
  unfold loadIfAlive
  rw [Sem.wp_loadIfAlive]
  exact h
theorem free_at {z TI TO : Addr} {f0 f1 : Value} {R : Bool → Shared → Prop} (hz : IsZipA s.heap z TI TO f0 f1) (hf : f0 = .none ∨ ∃ n t, f0 = .int n t)
    (h : ∀ b h' f1', IsZipA h' z TI TO f0 f1' → Heap.SameBut z s.heap h' → R b { s with heap := h' }) : wpAny (model prog w) A (Builtin.SmallTypes.ownedTupleIsFree (.ref z)) R E s := by
  unfold
      Builtin.SmallTypes.ownedTupleIsFree
  have same : ∀ b, R b s := fun b => h b s.heap f1 hz (.refl ..)
  rcases hf with rfl | ⟨n, t, rfl⟩
  · exact wpAny_bind (wpAny_field hz rfl (x := .none) rfl (wpAny_pure (same true)))
  · refine wpAny_bind (wpAny_field hz rfl (x := .int n t) rfl ?_)
    refine wpAny_bind (alive_at ?_)
    by_cases hl : (s.heap.get? n.toNat).isNone = true
    · rw [if_pos hl]
      exact wpAny_pure (same true)
    · rw [if_neg hl]
      refine wpAny_bind (wpAny_field hz rfl (x := f1) rfl ?_)
      split
      · refine wpAny_bind (wpAny_setField_rec hz (by simp) fun h' hz' hs' => wpAny_pure ?_)
        exact h false h' _ hz' hs'
      · exact wpAny_pure (same false)
/-- the stand of a zip -/
structure ZS (z TI TO : Addr) (cs : List Src) (i : Nat) (xs : List Value) (h : Heap) : Prop where
  ti : IsTupA h TI (itsOf cs)
  to : ∃ olds, IsTupA h TO olds ∧ olds.size = cs.length
  st : ∀ c ∈ cs, c.st i h
  sq : ∀ (j : Nat) (c : Src), cs[j]? = some c → ∃ items x, c.sq items h ∧ items[i]? = some x ∧ xs[j]? = some x
theorem ZS.same {z TI TO : Addr} {cs : List Src} {i : Nat} {xs : List Value} {h h' : Heap} (D : ZA z TI TO cs) (g : ZS z TI TO cs i xs h) (k : Heap.SameBut z h h') : ZS z TI TO cs i xs h' :=
  ⟨k.extBut _ _ (Ne.symm D.zt) g.ti, let ⟨o, a, b⟩ := g.to; ⟨o, k.extBut _ _ (Ne.symm D.zo) a, b⟩, fun c hc => Src.st_at (g.st c hc) fun o e => k.extBut _ _ (D.i c hc).1 e,
    fun j c hj => let ⟨its, x, a, b⟩ := g.sq j c hj; ⟨its, x, Src.sq_at a fun o e => k.extBut _ _ (D.a c (List.mem_of_getElem? hj)).1 e, b⟩⟩
/-- while the items are drawn: k of them are -/
structure ZK (z TI TO : Addr) (cs : List Src) (i : Nat) (h0 : Heap) (k : Nat) (h : Heap) : Prop where
  st : ∀ (j : Nat) (c : Src), cs[j]? = some c → c.st (if j < k then i + 1 else i) h
  keep : ∀ b o, b ≠ z → b ≠ TO → (∀ c ∈ cs, b ≠ c.it) → h0.get? b = some o → h.get? b = some o
  sz : h.objs.size = h0.objs.size
theorem ZK.zero {z TI TO : Addr} {cs : List Src} {i : Nat} {xs : List Value} {h0 h : Heap} (g : ZS z TI TO cs i xs h) (k : Heap.SameBut z h0 h) : ZK z TI TO cs i h0 0 h :=
  ⟨fun j c hj => by rw [if_neg (Nat.not_lt_zero _)]; exact g.st c (List.mem_of_getElem? hj), fun b o hb _ _ e => k.extBut _ _ hb e, k.1⟩
theorem its_ne {cs : List Src} (nd : (cs.map Src.it).Nodup) {j k : Nat} {c d : Src} (h1 : cs[j]? = some c) (h2 : cs[k]? = some d) (hn : j ≠ k) : c.it ≠ d.it := fun e => by
  have e1 : (cs.map Src.it)[j]? = some c.it := by rw [List.getElem?_map, h1]; rfl
  have e2 : (cs.map Src.it)[k]? = some d.it := by rw [List.getElem?_map, h2]; rfl
  obtain ⟨l1, q1⟩ := List.getElem?_eq_some_iff.mp e1
  obtain ⟨l2, q2⟩ := List.getElem?_eq_some_iff.mp e2
  exact absurd (q1.trans (e.trans q2.symm)) (by
    rcases Nat.lt_or_gt_of_ne hn with h | h
    · exact List.pairwise_iff_getElem.mp nd j k l1 l2 h
    · exact fun z => List.pairwise_iff_getElem.mp nd k j l2 l1 h z.symm)
/-- one more is drawn -/
theorem ZK.more {z TI TO : Addr} {cs : List Src} {i k : Nat} {h0 h h' : Heap} {c : Src} (D : ZA z TI TO cs) (g : ZK z TI TO cs i h0 k h) (hc : cs[k]? = some c) (hs : c.st (i + 1) h') (hk : Heap.SameBut c.it h h') : ZK z TI TO cs i h0 (k + 1) h' := by
  refine ⟨fun j d hj => ?_, fun b o h1 h2 h3 e => hk.extBut _ _ (h3 c (List.mem_of_getElem? hc)) (g.keep b o h1 h2 h3 e), hk.1.trans g.sz⟩
  by_cases e : j = k
  · subst e
    rw [hc] at hj; cases hj
    rw [if_pos (Nat.lt_succ_self _)]
    exact hs
  · have z := g.st j d hj
    have e2 : (if j < k + 1 then i + 1 else i) = if j < k then i + 1 else i := by
      by_cases h : j < k
      · rw [if_pos h,
            if_pos (by omega)]
      · rw [if_neg h,
            if_neg (by omega)]
    rw [e2]
    exact Src.st_at z fun o q => hk.extBut _ _ (its_ne D.nd hj hc e) q
/-- another thing is written -/
theorem ZK.wr {z TI TO : Addr} {cs : List Src} {i k : Nat} {h0 h h' : Heap} {b : Addr} (D : ZA z TI TO cs) (hb : b = z ∨ b = TO) (g : ZK z TI TO cs i h0 k h) (hk : Heap.SameBut b h h') : ZK z TI TO cs i h0 k h' := by
  refine ⟨fun j d hj => Src.st_at (g.st j d hj) fun o q => hk.extBut _ _ (fun e => ?_) q, fun c o h1 h2 h3 e => hk.extBut _ _ (fun e' => ?_) (g.keep c o h1 h2 h3 e), hk.1.trans g.sz⟩
  · rcases hb with hb | hb
    · exact (D.i d (List.mem_of_getElem? hj)).1 (e.trans hb)
    · exact (D.i d (List.mem_of_getElem? hj)).2.2 (e.trans hb)
  · rcases hb with hb | hb
    · exact h1 (e'.trans hb)
    · exact h2 (e'.trans hb)
theorem ZK.sq {z TI TO : Addr} {cs : List Src} {i k : Nat} {h0 h : Heap} (D : ZA z TI TO cs) (g : ZK z TI TO cs i h0 k h) {c : Src} (hc : c ∈ cs) {items : Array Value} (q : c.sq items h0) : c.sq items h :=
  Src.sq_at q fun o e => g.keep _ o (D.a c hc).1 (D.a c hc).2.1 (fun d hd => (D.a c hc).2.2 d hd) e
theorem drop_one {α : Type} {l : List α} {k : Nat} {x : α} {r : List α} (h : x :: r = l.drop k) : l[k]? = some x ∧ r = l.drop (k + 1) := by
  have hk : k < l.length := by
    by_cases e : k < l.length
    · exact e
    · rw [List.drop_of_length_le (by omega)] at h; cases h
  rw [List.drop_eq_getElem_cons hk] at h
  cases h
  exact ⟨List.getElem?_eq_getElem hk, rfl⟩
theorem zipN_next {z TI TO : Addr} {cs : List Src} {f0 f1 : Value} {i : Nat} {xs : List Value} {Q : Value → Shared → Prop} (D : ZA z TI TO cs) (hne : cs ≠ []) (hn : cs.length ≤ 1000) (hz : IsZipA s.heap z TI TO f0 f1) (hf : f0 = .none ∨ ∃ n t, f0 = .int n t)
    (g : ZS z TI TO cs i xs s.heap) (hl : xs.length = cs.length)
    (hQ : ∀ h' f0' f1', IsZipA h' z TI TO f0' f1' → (f0' = f0 ∨ f0' = rawInt s.heap.objs.size) → IsTupA h' TI (itsOf cs) → (∃ olds, IsTupA h' TO olds ∧ olds.size = cs.length) → (∀ c ∈ cs, c.st (i + 1) h') → IsTupA h' s.heap.objs.size xs.toArray → h'.objs.size = s.heap.objs.size + 1 →
      (∀ b o, b ≠ z → b ≠ TO → (∀ c ∈ cs, b ≠ c.it) → s.heap.get? b = some o → h'.get? b = some o) → Q (.ref s.heap.objs.size) { s with heap := h' }) :
    wpAny (model prog w) A (Builtin.«zip.__next__» ⟨[.ref z], []⟩) (fun fin s' =>
        ∃ v, fin = .done (.ret v) ∧ Q v s') E s := by
  show wpAny _ _ (field (.ref z)
      2 >>= _) _ _ _
  refine wpAny_bind (wpAny_field hz rfl (x :=
      .bool false) rfl ?_)
  show wpAny _ _ (field (.ref z)
      3 >>= _) _ _ _
  refine wpAny_bind (wpAny_field hz rfl (x :=
      .ref TI) rfl ?_)
  refine wpAny_bind (wpAny_seqItems g.ti rfl ?_)
  have hem : (itsOf cs).isEmpty = false := by
    cases cs with
    | nil => exact absurd rfl hne
    | cons c r => simp [itsOf]
  simp only [hem]
  show wpAny _ _ (Builtin.SmallTypes.ownedTupleIsFree (.ref z)
      >>= _) _ _ _
  refine wpAny_bind (free_at hz hf fun b h1 g1 hz1 hs1 => ?_)
  have G1 := g.same D hs1
  have K0 : ZK z TI TO cs i s.heap 0 h1 := ZK.zero G1 hs1
  obtain ⟨hp, gens, dr, tk, os⟩ := s
  have hzt : ∀ {h : Heap} {k : Nat}, ZK z TI TO cs i hp k h → IsTupA h TI (itsOf cs) := fun K => K.keep _ _ (Ne.symm D.zt) D.to (fun c hc => Ne.symm (D.i c hc).2.1) g.ti
  have items : ∀ (j : Nat) (c : Src), cs[j]? = some c → ∃ its x, c.sq its hp ∧ its[i]? = some x ∧ xs[j]? = some x := g.sq
  cases b with
  | true =>
    simp only [if_true]
    refine wpAny_bind
        (wpAny_rule ?_)
    refine wpAny_bind (wpAny_field hz1 rfl (x := .ref TO) rfl ?_)
    refine wpAny_bind (wpAny_setField_rec hz1 (by simp) fun h2 hz2 hs2 => ?_)
    replace hz2 : IsZipA h2 z TI TO .ellipsis g1 := hz2
    replace hs2 : Heap.SameBut z h1 h2 := hs2
    have K2 := K0.wr D (.inl rfl) hs2
    obtain ⟨olds, hTO, ho⟩ := G1.to
    have hTO2 : IsTupA h2 TO olds := hs2.extBut _ _ (Ne.symm D.zo) hTO
    refine wpAny_bind (wpAny_forIn_list _ (fun rest b s' => b = (none, ()) ∧ ∃ k h' arr, rest = (List.map (fun c : Src => Value.ref c.it) cs).zipIdx.drop k ∧ k ≤ cs.length ∧ s' = ⟨h', gens, dr, tk, os⟩ ∧ ZK z TI TO cs i hp k h' ∧ IsZipA h' z TI TO .ellipsis g1 ∧ IsTupA h' TO arr ∧ arr.size = cs.length ∧ ∀ j, j < k → arr[j]? = xs[j]?) _ ?_ ?_ _ _ ?_)
    · rintro ⟨v, kk⟩ rest b s' ⟨rfl, k, h3, arr, hr, hkl, rfl, K, hz3, hT3, ha, hj⟩
      obtain ⟨e1, e2⟩ := drop_one hr
      rw [List.getElem?_zipIdx, List.getElem?_map] at e1
      cases hc : cs[k]? with
      | none => rw [hc] at e1; cases e1
      | some c =>
        rw [hc] at e1
        cases e1
        obtain ⟨its, x, i1, i2, i3⟩ := items k c hc
        have hcm := List.mem_of_getElem? hc
        refine wpAny_bind (wpAny_onRaise ?_)
        show wpAny _ _ (Builtin.SmallTypes.nextOf (.ref c.it) >>= _) _ _ ⟨h3, gens, dr, tk, os⟩
        have st := K.st k c hc
        rw [if_neg (Nat.lt_irrefl _)] at st
        refine wpAny_bind (Src.item (s := ⟨h3, gens, dr, tk, os⟩) st (K.sq D hcm i1) i2 fun h4 hst hs4 => wpAny_pure ?_)
        replace hs4 : Heap.SameBut c.it h3 h4 := hs4
        have K4 := K.more D hc hst hs4
        have hT4 : IsTupA h4 TO arr := hs4.extBut _ _ (Ne.symm (D.i c hcm).2.2) hT3
        have hz4 : IsZipA h4 z TI TO .ellipsis g1 := hs4.extBut _ _ (Ne.symm (D.i c hcm).1) hz3
        refine wpAny_bind (wpAny_seqItems (s := ⟨h4, gens, dr, tk, os⟩) hT4 rfl ?_)
        refine wpAny_bind (upd_at (s := ⟨h4, gens, dr, tk, os⟩) (by rw [ha]; exact hn) hT4 fun h5 hT5 hs5 => ?_)
        replace hs5 : Heap.SameBut TO h4 h5 := hs5
        refine wpAny_bind
            (wpAny_letGo (wpAny_pure ?_))
        rw [Nat.zero_add] at hT5
        refine ⟨rfl, k + 1, h5, _, e2, (List.getElem?_eq_some_iff.mp hc).1, rfl, K4.wr D (.inr rfl) hs5, hs5.extBut _ _ D.zo hz4, hT5, by simpa using ha, fun j hj' => ?_⟩
        by_cases e : j = k
        · subst e
          have hjl : j < arr.size := by rw [ha]; exact (List.getElem?_eq_some_iff.mp hc).1
          simp [Array.getElem?_setIfInBounds, hjl, i3]
        · rw [Array.getElem?_setIfInBounds_ne (Ne.symm e)]
          exact hj j (by omega)
    · rintro b s' ⟨rfl, k, h3, arr, hr, hkl, rfl, K, hz3, hT3, ha, hj⟩
      have hk : k = cs.length := by
        have z := congrArg List.length hr
        simp at z
        omega
      subst hk
      have earr : arr = xs.toArray := by
        refine Array.ext_getElem? fun j => ?_
        by_cases h : j < cs.length
        · rw [hj j h]; simp
        · rw [Array.getElem?_eq_none (by omega), Array.getElem?_eq_none (by simp; omega)]
      subst earr
      refine wpAny_bind (wpAny_seqItems (s := ⟨h3, gens, dr, tk, os⟩) hT3 rfl ?_)
      refine wpAny_bind (wpAny_newTuple ?_ (by simp; exact Nat.le_trans (by omega : xs.length ≤ 1000) (by decide)))
      show wpAny _ _ (Builtin.SmallTypes.ownedTupleHandOut (.ref z) (.ref h3.objs.size) >>= _) _ _ ⟨h3.push { cls := .type "tuple", data := .seq xs.toArray.toList.toArray }, gens, dr, tk, os⟩
      refine wpAny_bind ?_
      unfold
          Builtin.SmallTypes.ownedTupleHandOut
      have hsz : h3.objs.size = hp.objs.size := K.sz
      have hzlt : z < h3.objs.size := Heap.lt_size hz3
      have hz4 : IsZipA (h3.push { cls := .type "tuple", data := .seq xs.toArray.toList.toArray }) z TI TO .ellipsis g1 := Heap.get?_push_of_some _ hz3
      refine wpAny_bind (wpAny_setField_rec hz4 (by simp) fun h5 hz5 hs5 => ?_)
      replace hz5 : IsZipA h5 z TI TO (rawInt h3.objs.size) g1 := hz5
      refine wpAny_setField_rec hz5 (by simp) fun h6 hz6 hs6 => ?_
      replace hz6 : IsZipA h6 z TI TO (rawInt h3.objs.size) (.bool false) := hz6
      replace hs5 : Heap.SameBut z _ h5 := hs5
      replace hs6 : Heap.SameBut z h5 h6 := hs6
      have up : ∀ c o, c ≠ z → h3.get? c = some o → h6.get? c = some o := fun c o c1 e => hs6.extBut _ _ c1 (hs5.extBut _ _ c1 (Heap.get?_push_of_some _ e))
      have hT6 : IsTupA h6 h3.objs.size xs.toArray := hs6.extBut _ _ (Nat.ne_of_gt hzlt) (hs5.extBut _ _ (Nat.ne_of_gt hzlt) (by simpa using Heap.get?_push_size h3 (o := { cls := .type "tuple", data := .seq xs.toArray }) rfl))
      have hz8 : h6.objs.size = h3.objs.size + 1 := by rw [hs6.1, hs5.1, Heap.size_push]
      rw [hsz] at hz6 hT6 hz8
      refine wpAny_pure ⟨_,
          rfl, ?_⟩
      show Q (.ref h3.objs.size) ⟨h6, gens, dr, tk, os⟩
      rw [hsz]
      refine hQ h6 _ _ hz6 (.inr rfl) (up _ _ (Ne.symm D.zt) (hzt K)) ⟨_, up _ _ (Ne.symm D.zo) hT3, ha⟩ (fun c hc => ?_) hT6 hz8 fun b o h1 h2 h3' e => up b o h1 (K.keep b o h1 h2 h3' e)
      obtain ⟨j, hj'⟩ := List.mem_iff_getElem?.mp hc
      have q := K.st j c hj'
      rw [if_pos (List.getElem?_eq_some_iff.mp hj').1] at q
      exact Src.st_at q fun o e => up _ o (D.i c hc).1 e
    · exact ⟨rfl, 0, h2, olds, rfl, Nat.zero_le _, rfl, K2, hz2, hTO2, ho, fun j hj => absurd hj (Nat.not_lt_zero _)⟩
  | false =>
    simp only [Bool.false_eq_true,
        if_false]
    obtain ⟨olds, hTO, ho⟩ := G1.to
    refine wpAny_bind (wpAny_forIn_array' _ (fun rest b s' => ∃ k h', rest = (List.map (fun c : Src => Value.ref c.it) cs).drop k ∧ k ≤ cs.length ∧ b = (none, (xs.take k).toArray) ∧ s' = ⟨h', gens, dr, tk, os⟩ ∧ ZK z TI TO cs i hp k h' ∧ IsZipA h' z TI TO f0 g1 ∧ IsTupA h' TO olds) _ ?_ ?_ _ _ ?_)
    · rintro v rest b s' ⟨k, h3, hr, hkl, rfl, rfl, K, hz3, hT3⟩
      obtain ⟨e1, e2⟩ := drop_one hr
      rw [List.getElem?_map] at e1
      cases hc : cs[k]? with
      | none => rw [hc] at e1; cases e1
      | some c =>
        rw [hc] at e1
        cases e1
        obtain ⟨its, x, i1, i2, i3⟩ := items k c hc
        have hcm := List.mem_of_getElem? hc
        refine wpAny_bind
            (wpAny_holding ?_)
        show wpAny _ _ (Builtin.SmallTypes.nextOf (.ref c.it) >>= _) _ _ ⟨h3, gens, dr, tk, os⟩
        have st := K.st k c hc
        rw [if_neg (Nat.lt_irrefl _)] at st
        refine wpAny_bind (Src.item (s := ⟨h3, gens, dr, tk, os⟩) st (K.sq D hcm i1) i2 fun h4 hst hs4 => wpAny_pure (wpAny_pure ?_))
        replace hs4 : Heap.SameBut c.it h3 h4 := hs4
        refine ⟨k + 1, h4, e2, (List.getElem?_eq_some_iff.mp hc).1, ?_, rfl, K.more D hc hst hs4, hs4.extBut _ _ (Ne.symm (D.i c hcm).1) hz3, hs4.extBut _ _ (Ne.symm (D.i c hcm).2.2) hT3⟩
        rw [List.take_add_one, i3]
        simp
    · rintro b s' ⟨k, h3, hr, hkl, rfl, rfl, K, hz3, hT3⟩
      have hk : k = cs.length := by
        have z := congrArg List.length hr
        simp at z
        omega
      subst hk
      have etk : (xs.take cs.length).toArray.toList = xs := by rw [← hl]; simp
      show wpAny _ _ (newTuple (xs.take cs.length).toArray.toList >>= _) _ _ _
      rw [etk]
      refine wpAny_bind (wpAny_newTuple ?_ (Nat.le_trans (by omega : xs.length ≤ 1000) (by decide)))
      have hsz : h3.objs.size = hp.objs.size := K.sz
      refine wpAny_pure ⟨_,
          rfl, ?_⟩
      show Q (.ref h3.objs.size) ⟨h3.push { cls := .type "tuple", data := .seq xs.toArray }, gens, dr, tk, os⟩
      rw [hsz]
      refine hQ _ _ _ (Heap.get?_push_of_some _ hz3) (.inl rfl) (Heap.get?_push_of_some _ (hzt K)) ⟨_, Heap.get?_push_of_some _ hT3, ho⟩ (fun c hc => ?_) ?_ (by rw [Heap.size_push, hsz]) fun b o h1 h2 h3' e => Heap.get?_push_of_some _ (K.keep b o h1 h2 h3' e)
      · obtain ⟨j, hj'⟩ := List.mem_iff_getElem?.mp hc
        have q := K.st j c hj'
        rw [if_pos (List.getElem?_eq_some_iff.mp hj').1] at q
        exact Src.st_at q fun o e => Heap.get?_push_of_some _ e
      · have q := Heap.get?_push_size h3 (o := { cls := .type "tuple", data := .seq xs.toArray }) rfl
        rw [hsz] at q
        exact q
    · exact ⟨0, h1, rfl, Nat.zero_le _, rfl, rfl, K0, hz1, hTO⟩
end
end Mir
end

section
set_option Elab.async false
set_option linter.all false
set_option maxRecDepth 100000
set_option maxHeartbeats 2001000
/-! zip of any number of lists and tuples. -/
namespace Mir
open PySem
open PySem.Sem (wp)
section
variable {prog : Program} {w : World} {A :
    Around} {E : Value → Shared → Prop} {s : Shared}
theorem zipN_end {z TI TO : Addr} {c : Src} {cs : List Src} {f0 f1 : Value} {i : Nat} {items olds : Array Value} {Q : Fin → Shared → Prop} (hh : A.handled = none) (D : ZA z TI TO (c :: cs)) (hz : IsZipA s.heap z TI TO f0 f1) (hf : f0 = .none ∨ ∃ n t, f0 = .int n t)
    (hTI : IsTupA s.heap TI (itsOf (c :: cs))) (hTO : IsTupA s.heap TO olds) (hst : c.st i s.heap) (hsq : c.sq items s.heap) (hx : items[i]? = none)
    (hE : ∀ h' e, (∀ b o, b ≠ z → b ≠ TO → (∀ d ∈ c :: cs, b ≠ d.it) → s.heap.get? b = some o → h'.get? b = some o) → (∃ o, h'.get? e = some o ∧ o.cls = .type "StopIteration") → E (.ref e) { s with heap := h' }) :
    wpAny (model prog w)
        A (Builtin.«zip.__next__» ⟨[.ref z], []⟩) Q E s := by
  show wpAny _ _ (field (.ref z)
      2 >>= _) _ _ _
  refine wpAny_bind (wpAny_field hz rfl (x :=
      .bool false) rfl ?_)
  show wpAny _ _ (field (.ref z)
      3 >>= _) _ _ _
  refine wpAny_bind (wpAny_field hz rfl (x :=
      .ref TI) rfl ?_)
  refine wpAny_bind
      (wpAny_seqItems hTI rfl ?_)
  have hem : (itsOf (c :: cs)).isEmpty = false := by simp [itsOf]
  simp only [hem]
  show wpAny _ _ (Builtin.SmallTypes.ownedTupleIsFree (.ref z)
      >>= _) _ _ _
  refine wpAny_bind (free_at hz hf fun b h1 g1 hz1 hs1 => ?_)
  have hcm : c ∈ c :: cs := List.mem_cons_self
  have st1 : c.st i h1 := Src.st_at hst fun o e => hs1.extBut _ _ (D.i c hcm).1 e
  have sq1 : c.sq items h1 := Src.sq_at hsq fun o e => hs1.extBut _ _ (D.a c hcm).1 e
  have hTO1 : IsTupA h1 TO olds := hs1.extBut _ _ (Ne.symm D.zo) hTO
  obtain ⟨hp, gens, dr, tk, os⟩ := s
  replace hs1 : Heap.SameBut z hp h1 := hs1
  cases b with
  | true =>
    simp only [if_true]
    refine wpAny_bind
        (wpAny_rule ?_)
    refine wpAny_bind (wpAny_field hz1 rfl (x := .ref TO) rfl ?_)
    refine wpAny_bind (wpAny_setField_rec hz1 (by simp) fun h2 hz2 hs2 => ?_)
    replace hz2 : IsZipA h2 z TI TO .ellipsis g1 := hz2
    replace hs2 : Heap.SameBut z h1 h2 := hs2
    have st2 : c.st i h2 := Src.st_at st1 fun o e => hs2.extBut _ _ (D.i c hcm).1 e
    have sq2 : c.sq items h2 := Src.sq_at sq1 fun o e => hs2.extBut _ _ (D.a c hcm).1 e
    refine wpAny_bind (wpAny_forIn_list _ (fun rest b s' => rest = (List.map (fun c : Src => Value.ref c.it) (c :: cs)).zipIdx ∧ s' = ⟨h2, gens, dr, tk, os⟩) _ ?_ ?_ _ _ ⟨rfl, rfl⟩)
    · rintro ⟨v, k⟩ rest b s' ⟨hr, rfl⟩
      rw [List.map_cons, List.zipIdx_cons] at hr
      cases hr
      refine wpAny_bind (wpAny_onRaise ?_)
      show wpAny _ _ (Builtin.SmallTypes.nextOf (.ref c.it) >>= _) _ _ ⟨h2, gens, dr, tk, os⟩
      refine wpAny_bind (Src.fin (s := ⟨h2, gens, dr, tk, os⟩) hh st2 sq2 hx fun q e hq he => ?_)
      replace hq : Heap.ExtBut c.it h2 q := hq
      obtain ⟨oe, hoe, hce⟩ := he
      replace hoe : q.get? e = some oe :=
          hoe
      have hzq : IsZipA q z TI TO .ellipsis g1 := hq _ _ (Ne.symm (D.i c hcm).1) hz2
      have hez : e ≠ z := fun same => by
        rw [same, hzq] at hoe
        cases hoe
        simp at hce
      refine wpAny_setField_rec (s := ⟨q, gens, dr, tk, os⟩) hzq (by simp) fun q' _ hq' => ?_
      replace hq' : Heap.SameBut z q q' :=
          hq'
      exact hE q' e (fun b o bz bT bi x => hq'.extBut _ _ bz (hq _ _ (bi c hcm) (hs2.extBut _ _ bz (hs1.extBut _ _ bz x)))) ⟨oe, hq'.extBut _ _ hez hoe, hce⟩
    · rintro b s' ⟨hr, _⟩
      simp at hr
  | false =>
    simp only [Bool.false_eq_true,
        if_false]
    refine wpAny_bind (wpAny_forIn_array' _ (fun rest b s' => rest = (itsOf (c :: cs)).toList ∧ s' = ⟨h1, gens, dr, tk, os⟩) _ ?_ ?_ _ _ ⟨rfl, rfl⟩)
    · rintro v rest b s' ⟨hr, rfl⟩
      simp only [itsOf, List.map_cons] at hr
      cases hr
      refine wpAny_bind
          (wpAny_holding ?_)
      show wpAny _ _ (Builtin.SmallTypes.nextOf (.ref c.it) >>= _) _ _ ⟨h1, gens, dr, tk, os⟩
      refine wpAny_bind (Src.fin (s := ⟨h1, gens, dr, tk, os⟩) hh st1 sq1 hx fun q e hq he => ?_)
      replace hq : Heap.ExtBut c.it h1 q := hq
      exact hE q e (fun b o bz bT bi x => hq _ _ (bi c hcm) (hs1.extBut _ _ bz x)) he
    · rintro b s' ⟨hr, _⟩
      simp [itsOf] at hr
theorem pyNext_zipN {z TI TO : Addr} {cs : List Src} {f0 f1 : Value} {i : Nat} {xs : List Value} {Q : Option Value → Shared → Prop} (D : ZA z TI TO cs) (hne : cs ≠ []) (hn : cs.length ≤ 1000) (hz : IsZipA s.heap z TI TO f0 f1) (hf : f0 = .none ∨ ∃ n t, f0 = .int n t)
    (g : ZS z TI TO cs i xs s.heap) (hl : xs.length = cs.length)
    (hQ : ∀ h' f0' f1', IsZipA h' z TI TO f0' f1' → (f0' = f0 ∨ f0' = rawInt s.heap.objs.size) → IsTupA h' TI (itsOf cs) → (∃ olds, IsTupA h' TO olds ∧ olds.size = cs.length) → (∀ c ∈ cs, c.st (i + 1) h') → IsTupA h' s.heap.objs.size xs.toArray → h'.objs.size = s.heap.objs.size + 1 →
      (∀ b o, b ≠ z → b ≠ TO → (∀ c ∈ cs, b ≠ c.it) → s.heap.get? b = some o → h'.get? b = some o) → Q (some (.ref s.heap.objs.size)) { s with heap := h' }) :
    wpAny (model prog w)
        A (pyNext (.ref z)) Q E s := by
  have hT : s.TypeIs (.ref z) "zip" :=
      ⟨_, hz, rfl⟩
  unfold pyNext
  exact wpAny_bind (wpAny_attempt (wpAny_callSpecial?_slot (name :=
      Str.ofString "__next__") hT F.slot_zip_next
    (wpAny_call_entry F.slot_zip_next
        hT F.entry_zip_next
      (zipN_next D hne hn hz hf g hl fun h' f0' f1' a b c d e f k q => wpAny_pure (hQ h' f0' f1' a b c d e f k q)) (F.args_zip_next_1 _))))
theorem pyNext_zipN_end {z TI TO : Addr} {c : Src} {cs : List Src} {f0 f1 : Value} {i : Nat} {items olds : Array Value} {Q : Option Value → Shared → Prop} (hh : A.handled = none) (D : ZA z TI TO (c :: cs)) (hz : IsZipA s.heap z TI TO f0 f1) (hf : f0 = .none ∨ ∃ n t, f0 = .int n t)
    (hTI : IsTupA s.heap TI (itsOf (c :: cs))) (hTO : IsTupA s.heap TO olds) (hst : c.st i s.heap) (hsq : c.sq items s.heap) (hx : items[i]? = none)
    (hQ : ∀ h', (∀ b o, b ≠ z → b ≠ TO → (∀ d ∈ c :: cs, b ≠ d.it) → s.heap.get? b = some o → h'.get? b = some o) → Q none { s with heap := h' }) :
    wpAny (model prog w)
        A (pyNext (.ref z)) Q E s := by
  have hT : s.TypeIs (.ref z) "zip" :=
      ⟨_, hz, rfl⟩
  unfold pyNext
  refine wpAny_bind (wpAny_attempt (wpAny_callSpecial?_slot (name :=
      Str.ofString "__next__") hT F.slot_zip_next
    (wpAny_call_entry F.slot_zip_next hT F.entry_zip_next (zipN_end (A := A.in1) hh D hz hf hTI hTO hst hsq hx fun h' e hk he => ?_) (F.args_zip_next_1 _))))
  obtain ⟨o, ho, hc⟩ := he
  refine wpAny_bind (wpAny_isInstance (T :=
      "StopIteration") (b := true) ⟨o, ho, hc⟩ isSubtype_stop ?_)
  exact wpAny_pure (hQ _ hk)
theorem letGo_zipN {tg : Expr} {z TI TO T : Addr} {f0 f1 : Value} {Q : Unit → Shared → Prop} (hz : IsZipA s.heap z TI TO f0 f1) (hQ : ∀ h' f0', IsZipA h' z TI TO f0' f1 → (f0' = f0 ∨ f0' = .none) → Heap.SameBut z s.heap h' → Q () { s with heap := h' }) :
    wpAny (model prog w) A (letOwnedTupleGo tg (.ref z) (.ref T)) Q E s := by
  have same : Q () s := hQ s.heap f0 hz (.inl rfl) (.refl ..)
  have go : wpAny (model prog w) A (do
      let o ← load z
      match o.cls, o.data with
      | .type n, .fields vs =>
        if ["enumerate", "zip", "dict_itemiterator", "dict_reverseitemiterator", "odict_iterator", "itertools.zip_longest", "itertools.pairwise"].contains n && vs[0]? == some (rawInt T) then
          rule
              "for.unpacks-the-owned-tuple"
          updateField z 0 .none
      | _, _ => pure ()) Q E s := by
    refine wpAny_bind
        (wpAny_load hz ?_)
    dsimp only
    split
    · refine wpAny_bind
          (wpAny_rule ?_)
      show wpAny _ _ (setField (.ref z)
          0 .none) Q E s
      exact wpAny_setField_rec hz (by simp) fun h' hz' hs' => hQ h' _ hz' (.inr rfl) hs'
    · exact wpAny_pure same
  unfold letOwnedTupleGo
  cases tg <;> first
    | exact wpAny_pure same
    | exact go
theorem pyIter_zipN {z TI TO : Addr} {f0 f1 : Value} {Q : Value → Shared → Prop} (hz : IsZipA s.heap z TI TO f0 f1) (h : Q (.ref z) s) : wpAny (model prog w) A (pyIter (.ref z)) Q E s := by
  have hT : s.TypeIs (.ref z) "zip" :=
      ⟨_, hz, rfl⟩
  refine wpAny_pyIter_slot hT F.slot_zip_iter (wpAny_call_entry
      F.slot_zip_iter hT F.entry_zip_iter ?_ (F.args_zip_iter_1 _))
  show wpAny _ _ (ret (.ref z))
      _ _ s
  exact wpAny_pure ⟨_, rfl, "zip",
      _, hT, F.slot_zip_next.lookup, h⟩
/-! ### making it -/
def mkSrcs (N : Nat) (l : List (Addr × Bool)) : List Src := l.zipIdx.map fun p => ⟨N + p.2, p.1.1, p.1.2⟩
theorem mkSrcs_get {N : Nat} {l : List (Addr × Bool)} {j : Nat} {c : Src} : (mkSrcs N l)[j]? = some c ↔ ∃ p, l[j]? = some p ∧ c = ⟨N + j, p.1, p.2⟩ := by
  unfold mkSrcs
  rw [List.getElem?_map, List.getElem?_zipIdx]
  cases e : l[j]? with
  | none => simp
  | some p =>
    simp only [Option.map_some, Option.some.injEq, Nat.zero_add]
    constructor
    · rintro rfl; exact ⟨p, rfl, rfl⟩
    · rintro ⟨q, rfl, rfl⟩; rfl
theorem mkSrcs_len (N : Nat) (l : List (Addr × Bool)) : (mkSrcs N l).length = l.length := by unfold mkSrcs; rw [List.length_map, List.length_zipIdx]
def itObj (p : Addr × Bool) : Obj := match p.2 with
  | true => { cls := .type "list_iterator", data := .fields #[.ref p.1, .int 0 0] }
  | false => { cls := .type "tuple_iterator", data := .fields #[.ref p.1, .int 0 0] }
theorem iter_one {p : Addr × Bool} {items : Array Value} {N : Nat} {Q : Value → Shared → Prop} (h : Src.sq ⟨N, p.1, p.2⟩ items s.heap) (q : Q (.ref s.heap.objs.size) { s with heap := s.heap.push (itObj p) }) : wpAny (model prog w) A (pyIter (.ref p.1)) Q E s := by
  obtain ⟨a, b⟩ := p
  cases b
  · exact wpAny_pyIter_tuple (show s.heap.IsTuple a items from h) q
  · exact wpAny_pyIter_list (show s.heap.IsList a items from h) q
theorem st_new {h : Heap} {p : Addr × Bool} : Src.st ⟨h.objs.size, p.1, p.2⟩ 0 (h.push (itObj p)) := by
  obtain ⟨a, b⟩ := p
  cases b
  · exact ⟨_, Heap.get?_push_size _ rfl, rfl, rfl⟩
  · exact ⟨_, Heap.get?_push_size _ rfl, rfl, rfl⟩
theorem iterAll_at {l : List (Addr × Bool)} {Q : List Value → Shared → Prop} (hs : ∀ p ∈ l, ∃ items, Src.sq ⟨0, p.1, p.2⟩ items s.heap)
    (hQ : ∀ h', (∀ b o, s.heap.get? b = some o → h'.get? b = some o) → h'.objs.size = s.heap.objs.size + l.length → (∀ c ∈ mkSrcs s.heap.objs.size l, c.st 0 h') → Q ((mkSrcs s.heap.objs.size l).map fun c => Value.ref c.it) { s with heap := h' }) :
    wpAny (model prog w) A (Builtin.SmallTypes.iterAll (l.map fun p => Value.ref p.1)) Q E s := by
  obtain ⟨hp, gens, dr, tk, os⟩ := s
  unfold
      Builtin.SmallTypes.iterAll
  refine wpAny_bind (wpAny_forIn_list _ (fun rest b s' => ∃ k h', rest = (l.map fun p => Value.ref p.1).drop k ∧ k ≤ l.length ∧ b = (((mkSrcs hp.objs.size l).map fun c => Value.ref c.it).take k).toArray ∧ s' = ⟨h', gens, dr, tk, os⟩ ∧ h'.objs.size = hp.objs.size + k ∧
    (∀ b o, hp.get? b = some o → h'.get? b = some o) ∧ ∀ j c, j < k → (mkSrcs hp.objs.size l)[j]? = some c → c.st 0 h') _ ?_ ?_ _ _ ⟨0, hp, rfl, Nat.zero_le _, rfl, rfl, rfl, fun _ _ e => e, fun j c hj => absurd hj (Nat.not_lt_zero _)⟩)
  · rintro v rest b s' ⟨k, h1, hr, hkl, rfl, rfl, hz, hk, hst⟩
    obtain ⟨e1, e2⟩ := drop_one hr
    rw [List.getElem?_map] at e1
    cases hp' : l[k]? with
    | none => rw [hp'] at e1; cases e1
    | some p =>
      rw [hp'] at e1
      cases e1
      obtain ⟨items, hsq⟩ := hs p (List.mem_of_getElem? hp')
      have hsq1 : Src.sq ⟨0, p.1, p.2⟩ items h1 := Src.sq_at hsq fun o e => hk _ o e
      have hget : (mkSrcs hp.objs.size l)[k]? = some ⟨hp.objs.size + k, p.1, p.2⟩ := mkSrcs_get.mpr ⟨p, hp', rfl⟩
      refine wpAny_bind (wpAny_holding (iter_one (s := ⟨h1, gens, dr, tk, os⟩) hsq1 (wpAny_pure ?_)))
      refine ⟨k + 1, _, e2, (List.getElem?_eq_some_iff.mp hp').1, ?_, rfl, by rw [Heap.size_push, hz]; omega, fun b o e => Heap.get?_push_of_some _ (hk b o e), fun j c hj hc => ?_⟩
      · rw [List.take_add_one, List.getElem?_map, hget]
        simp [hz]
      · by_cases e : j = k
        · subst e
          rw [hget] at hc; cases hc
          have q := st_new (h := h1) (p := p)
          rw [hz] at q
          exact q
        · exact Src.st_at (hst j c (by omega) hc) fun o e => Heap.get?_push_of_some _ e
  · rintro b s' ⟨k, h1, hr, hkl, rfl, rfl, hz, hk, hst⟩
    have ek : k = l.length := by
      have q := congrArg List.length hr
      simp at q
      omega
    subst ek
    have etk : (((mkSrcs hp.objs.size l).map fun c => Value.ref c.it).take l.length).toArray.toList = (mkSrcs hp.objs.size l).map fun c => Value.ref c.it := by
      have q := mkSrcs_len hp.objs.size l
      rw [List.toList_toArray, List.take_of_length_le (by rw [List.length_map, q]; exact Nat.le_refl _)]
    refine wpAny_pure ?_
    rw [etk]
    refine hQ h1 hk hz fun c hc => ?_
    obtain ⟨j, hj⟩ := List.mem_iff_getElem?.mp hc
    have q := (List.getElem?_eq_some_iff.mp hj).1
    rw [mkSrcs_len] at q
    exact hst j c q hj
theorem meets_zipN (l : List (Addr × Bool)) (hl : l.length ≤ 8) :
    Meets (Builtin.«zip.__new__» ⟨.type "zip" :: l.map fun p => Value.ref p.1, []⟩) (fun _ R s => (∀ p ∈ l, ∃ items, Src.sq ⟨0, p.1, p.2⟩ items s.heap) ∧
      ∀ h' : Heap, IsZipA h' (s.heap.objs.size + l.length + 2) (s.heap.objs.size + l.length) (s.heap.objs.size + l.length + 1) .none (.bool false) → IsTupA h' (s.heap.objs.size + l.length) (itsOf (mkSrcs s.heap.objs.size l)) → (∃ olds, IsTupA h' (s.heap.objs.size + l.length + 1) olds ∧ olds.size = l.length) →
        (∀ c ∈ mkSrcs s.heap.objs.size l, c.st 0 h') → (∀ b o, s.heap.get? b = some o → h'.get? b = some o) → R (.ok (.ret (.ref (s.heap.objs.size + l.length + 2)))) { s with heap := h' }) :=
  .of_wp fun prog w A R s h =>
      by
    obtain ⟨hp, g, d, tk, os⟩ :=
        s; obtain ⟨h1, h⟩ := h
    have hsub := sub_zip
    have q1 := fun {A' : Around} {E : Value → Shared → Prop} {Q : List Value → Shared → Prop} => iterAll_at (prog := prog) (w := w) (A := A') (E := E) (s := ⟨hp, g, d, tk, os⟩) (l := l) (Q := Q) h1
    wp_walk using q1
    intro h2 hk hz hst
    replace hz : h2.objs.size = hp.objs.size + l.length := hz
    replace hk : ∀ b o, hp.get? b = some o → h2.get? b = some o := hk
    have hlen := mkSrcs_len hp.objs.size l
    have e8 : l.length ≤ sizeLine := Nat.le_trans hl (by decide)
    refine wpAny_bind (wpAny_newTuple ?_ (by rw [List.length_map]; exact Nat.le_trans (Nat.le_of_eq hlen) e8))
    refine wpAny_bind (wpAny_newTuple ?_ (by rw [List.length_map, List.length_map]; exact Nat.le_trans (Nat.le_of_eq hlen) e8))
    refine wpAny_bind ?_
    unfold Builtin.SmallTypes.newRecord
    dsimp only
    refine wpAny_newObj_type ?_ (by show (5 : Nat) ≤ sizeLine + 2; decide)
    have zz : ∀ (T1 T2 T3 : Heap), T1 = h2.push { cls := .type "tuple", data := .seq (itsOf (mkSrcs hp.objs.size l)) } → T2 = T1.push { cls := .type "tuple", data := .seq (List.map (fun _ => Value.none) (List.map (fun c : Src => Value.ref c.it) (mkSrcs hp.objs.size l))).toArray } →
        T3 = T2.push { cls := .type "zip", data := .fields #[.none, .bool false, .bool false, .ref h2.objs.size, .ref T1.objs.size] } → R (.ok (.ret (.ref T2.objs.size))) ⟨T3, g, d, tk, os⟩ := by
      intro T1 T2 T3 e1 e2 e3
      have s1 : T1.objs.size = hp.objs.size + l.length + 1 := by rw [e1, Heap.size_push, hz]
      have s2 : T2.objs.size = hp.objs.size + l.length + 2 := by rw [e2, Heap.size_push, s1]
      have k1 : ∀ b o, h2.get? b = some o → T1.get? b = some o := fun b o e => by rw [e1]; exact Heap.get?_push_of_some _ e
      have k2 : ∀ b o, T1.get? b = some o → T2.get? b = some o := fun b o e => by rw [e2]; exact Heap.get?_push_of_some _ e
      have k3 : ∀ b o, T2.get? b = some o → T3.get? b = some o := fun b o e => by rw [e3]; exact Heap.get?_push_of_some _ e
      have gT : IsTupA T1 h2.objs.size (itsOf (mkSrcs hp.objs.size l)) := by rw [e1]; exact Heap.get?_push_size _ rfl
      have gO : IsTupA T2 T1.objs.size (List.map (fun _ => Value.none) (List.map (fun c : Src => Value.ref c.it) (mkSrcs hp.objs.size l))).toArray := by rw [e2]; exact Heap.get?_push_size _ rfl
      have gZ : IsZipA T3 T2.objs.size h2.objs.size T1.objs.size .none (.bool false) := by rw [e3]; exact Heap.get?_push_size _ rfl
      rw [hz] at gT gZ
      rw [s1] at gO gZ
      rw [s2] at gZ
      rw [s2]
      exact h T3 gZ (k3 _ _ (k2 _ _ gT)) ⟨_, k3 _ _ gO, by simp [hlen]⟩ (fun c hc => Src.st_at (hst c hc) fun o e => k3 _ _ (k2 _ _ (k1 _ _ e))) fun b o e => k3 _ _ (k2 _ _ (k1 _ _ (hk b o e)))
    exact wpAny_pure ⟨_, rfl, zz _ _ _ rfl rfl rfl⟩
/-- zip(a, b, ..) -/
theorem znc : ∀ vs : List Value, vs.length ≤ 8 → checkBuiltinCall "zip.__new__" ⟨.type "zip" :: vs, []⟩ = pure ()
  | [], _ => by kernel_rfl
  | [_], _ => by kernel_rfl
  | [_, _], _ => by kernel_rfl
  | [_, _, _], _ => by kernel_rfl
  | [_, _, _, _], _ => by kernel_rfl
  | [_, _, _, _, _], _ => by kernel_rfl
  | [_, _, _, _, _, _], _ => by kernel_rfl
  | [_, _, _, _, _, _, _], _ => by kernel_rfl
  | [_, _, _, _, _, _, _, _], _ => by kernel_rfl
  | _ :: _ :: _ :: _ :: _ :: _ :: _ :: _ :: _ :: _, h => by simp at h
theorem ztc (vs : List Value) : checkTypeCall "zip" ⟨vs, []⟩ = pure () := by kernel_rfl
theorem zoi (obj : Value) : ∀ vs : List Value, vs.length ≤ 8 → argsOk "object.__init__" ⟨obj :: vs, []⟩
  | [], _ => by unfold argsOk; kernel_rfl
  | [_], _ => by unfold argsOk; kernel_rfl
  | [_, _], _ => by unfold argsOk; kernel_rfl
  | [_, _, _], _ => by unfold argsOk; kernel_rfl
  | [_, _, _, _], _ => by unfold argsOk; kernel_rfl
  | [_, _, _, _, _], _ => by unfold argsOk; kernel_rfl
  | [_, _, _, _, _, _], _ => by unfold argsOk; kernel_rfl
  | [_, _, _, _, _, _, _], _ => by unfold argsOk; kernel_rfl
  | [_, _, _, _, _, _, _, _], _ => by unfold argsOk; kernel_rfl
  | _ :: _ :: _ :: _ :: _ :: _ :: _ :: _ :: _ :: _, h => by simp at h
theorem call_zipN {l : List (Addr × Bool)} {Q : Value → Shared → Prop} (hl : l.length ≤ 8) (hs : ∀ p ∈ l, ∃ items, Src.sq ⟨0, p.1, p.2⟩ items s.heap)
    (h : ∀ h' : Heap, IsZipA h' (s.heap.objs.size + l.length + 2) (s.heap.objs.size + l.length) (s.heap.objs.size + l.length + 1) .none (.bool false) → IsTupA h' (s.heap.objs.size + l.length) (itsOf (mkSrcs s.heap.objs.size l)) → (∃ olds, IsTupA h' (s.heap.objs.size + l.length + 1) olds ∧ olds.size = l.length) →
        (∀ c ∈ mkSrcs s.heap.objs.size l, c.st 0 h') → (∀ b o, s.heap.get? b = some o → h'.get? b = some o) → Q (.ref (s.heap.objs.size + l.length + 2)) { s with heap := h' }) :
    wpAny (model prog w) A (call (.type "zip") (l.map fun p => Value.ref p.1)) Q E s :=
  callType_new F.called_zip (by decide) (ztc _) (znc _ (by rw [List.length_map]; exact hl)) (fun obj => zoi obj _ (by rw [List.length_map]; exact hl)) F.entry_zip_new (meets_zipN l hl)
    ⟨hs, fun h' a b c d e => ⟨⟨_, a, rfl⟩, h h' a b c d e⟩⟩
end
end Mir
end

section
set_option Elab.async false
set_option linter.all false
set_option maxRecDepth 100000
set_option maxHeartbeats 2001000
/-! A walk over zip of any number of lists and tuples, by data. -/
namespace Mir
open PySem L2

def SqA (K : PySem.W.Frag) (H : Hp) (p : Addr × Bool) (xs : List V) : Prop := match p.2 with
  | true => SqL K H p.1 xs
  | false => SqT K H p.1 xs
/-- the items at one place of all these -/
def ItN (K : PySem.W.Frag) (ps : List (Addr × Bool)) : It :=
  ⟨fun i H => ∃ xs : List V, xs.length = ps.length ∧ ∀ (j : Nat) (p : Addr × Bool), ps[j]? = some p → ∃ (ys : List V) (x : V), SqA K H p ys ∧ ys[i]? = some x ∧ xs[j]? = some x,
    fun i H v H' => ∃ T xs, v = .ref T ∧ H T = none ∧ H' = upd H T (.tup xs) ∧ xs.length = ps.length ∧ ∀ (j : Nat) (p : Addr × Bool) (ys : List V), ps[j]? = some p → SqA K H p ys → xs[j]? = ys[i]?,
    fun i H => ∃ p r ys, ps = p :: r ∧ SqA K H p ys ∧ ys.length ≤ i⟩
theorem sqA_at {X : Cx} {pins : List (Addr × Obj)} {σ : St} {H : Hp} {s : Shared} (I : Inv X pins σ H s) {p : Addr × Bool} {ys : List V} (h : SqA X.K H p ys) : ∃ its : List Value, Vals ys its ∧ Src.sq ⟨0, p.1, p.2⟩ its.toArray s.heap := by
  obtain ⟨a, b⟩ := p
  cases b
  · obtain ⟨its, rv, q, _⟩ := I.tuple (show SqT X.K H a ys from h)
    exact ⟨its, rv, q⟩
  · obtain ⟨its, rv, q, _⟩ := I.list (show SqL X.K H a ys from h)
    exact ⟨its, rv, q.isList⟩
theorem sqA_inj {X : Cx} {pins : List (Addr × Obj)} {σ : St} {H : Hp} {s : Shared} (I : Inv X pins σ H s) {p : Addr × Bool} {ys zs : List V} (h : SqA X.K H p ys) (g : SqA X.K H p zs) : ys = zs := by
  obtain ⟨a, b⟩ := p
  cases b
  · exact I.tuple_inj (show SqT X.K H a ys from h) (show SqT X.K H a zs from g)
  · exact I.list_inj (show SqL X.K H a ys from h) (show SqL X.K H a zs from g)
theorem collect_at {X : Cx} {pins : List (Addr × Obj)} {σ : St} {H : Hp} {s : Shared} (I : Inv X pins σ H s) {i : Nat} : ∀ (ps : List (Addr × Bool)) (xs : List V), xs.length = ps.length → (∀ (j : Nat) (p : Addr × Bool), ps[j]? = some p → ∃ (ys : List V) (x : V), SqA X.K H p ys ∧ ys[i]? = some x ∧ xs[j]? = some x) →
    ∃ us : List Value, Vals xs us ∧ ∀ (j : Nat) (p : Addr × Bool), ps[j]? = some p → ∃ (items : Array Value) (x : Value), Src.sq ⟨0, p.1, p.2⟩ items s.heap ∧ items[i]? = some x ∧ us[j]? = some x
  | [], [], _, _ => ⟨[], .nil, fun j p h => by simp at h⟩
  | [], _ :: _, h, _ =>
      by simp at h
  | _ :: _, [], h, _ =>
      by simp at h
  | p :: ps, x :: xs, hl, h => by
    obtain ⟨us, r, q⟩ := collect_at I ps xs (by simpa using hl) fun j p' hj => by
      obtain ⟨ys, y, a, b, c⟩ := h (j + 1) p' (by simpa using hj)
      exact ⟨ys, y, a, b, by simpa using c⟩
    obtain ⟨ys, y, a, b, c⟩ := h 0 p rfl
    have e : x = y := by simpa using c
    subst e
    obtain ⟨its, rv, hq⟩ := sqA_at I a
    obtain ⟨u, hu, ru⟩ := rv.get b
    refine ⟨u :: us, .cons ru r, fun j p' hj => ?_⟩
    cases j with
    | zero =>
      simp at hj
      subst hj
      exact ⟨its.toArray, u, hq, by simpa using hu, rfl⟩
    | succ j =>
      obtain ⟨items, w, a', b', c'⟩ := q j p' (by simpa using hj)
      exact ⟨items, w, a', b', by simpa using c'⟩
structure ZT (z TI TO : Addr) (cs : List Src) (i : Nat) (h : Heap) : Prop where
  z : ∃ f0 f1, IsZipA h z TI TO f0 f1 ∧ (f0 = .none ∨ ∃ n t, f0 = .int n t)
  ti : IsTupA h TI (itsOf cs)
  to : ∃ olds, IsTupA h TO olds ∧ olds.size = cs.length
  st : ∀ c ∈ cs, c.st i h
def zfp (z TI TO : Addr) (cs : List Src) : List Addr := z :: TI :: TO :: cs.map Src.it
theorem zfp_mem {z TI TO b : Addr} {cs : List Src} : b ∈ zfp z TI TO cs ↔ b = z ∨ b = TI ∨ b = TO ∨ ∃ c ∈ cs, b = c.it := by
  unfold zfp
  simp only [List.mem_cons, List.mem_map]
  constructor
  · rintro (h | h | h | ⟨c, hc, e⟩)
    · exact .inl h
    · exact .inr (.inl h)
    · exact .inr (.inr (.inl h))
    · exact .inr (.inr (.inr ⟨c, hc, e.symm⟩))
  · rintro (h | h | h | ⟨c, hc, e⟩)
    · exact .inl h
    · exact .inr (.inl h)
    · exact .inr (.inr (.inl h))
    · exact .inr (.inr (.inr ⟨c, hc, e.symm⟩))
theorem src_obj {c : Src} {i : Nat} {h : Heap} (x : c.st i h) : ∃ o, h.get? c.it = some o ∧ ∀ v, o.data ≠ .cell v := by
  obtain ⟨it, a, b⟩ := c
  cases b
  · obtain ⟨o, h1, _, h3⟩ := (show h.IsTupleIter it a i from x)
    exact ⟨o, h1, fun v e => by rw [h3] at e; cases e⟩
  · obtain ⟨o, h1, _, h3⟩ := (show h.IsListIter it a i from x)
    exact ⟨o, h1, fun v e => by rw [h3] at e; cases e⟩
theorem turn_zipN {P : Program} {w : World} {K : PySem.W.Frag} {tg : Expr} {z TI TO : Addr} {cs : List Src} (D : ZA z TI TO cs) (hne : cs ≠ []) (hn : cs.length ≤ 1000) :
    Turn P w K tg (ItN K (cs.map fun c => (c.a, c.k))) (zfp z TI TO cs) z (fun i h => ZT z TI TO cs i h) where
  mem := zfp_mem.mpr (.inl rfl)
  obj := fun i h t b hb => by
    obtain ⟨⟨f0, f1, hz, _⟩, hti, ⟨olds, hto, _⟩, hst⟩ := t
    rcases zfp_mem.mp hb with rfl | rfl | rfl | ⟨c, hc, rfl⟩
    · exact ⟨_, hz, fun v q => nomatch q⟩
    · exact ⟨_, hti, fun v q => nomatch q⟩
    · exact ⟨_, hto, fun v q => nomatch q⟩
    · exact src_obj (hst c hc)
  keep := fun i h h' t k => by
    obtain ⟨⟨f0, f1, hz, hf⟩, hti, ⟨olds, hto, ho⟩, hst⟩ := t
    exact ⟨⟨f0, f1, k z (zfp_mem.mpr (.inl rfl)) _ hz, hf⟩, k TI (zfp_mem.mpr (.inr (.inl rfl))) _ hti, ⟨olds, k TO (zfp_mem.mpr (.inr (.inr (.inl rfl)))) _ hto, ho⟩,
      fun c hc => Src.st_at (hst c hc) fun o e => k c.it (zfp_mem.mpr (.inr (.inr (.inr ⟨c, hc, rfl⟩)))) o e⟩
  item := by
    intro X hP hw hK hc i pins s σ H E I hf t hg
    subst hP hw hK
    obtain ⟨⟨f0, f1, hz, hf0⟩, hti, hto, hst⟩ := t
    obtain ⟨xs, hl, hx⟩ := hg
    obtain ⟨us, rv, hu⟩ := collect_at I _ xs hl hx
    have hul : us.length = cs.length := by rw [← rv.length, hl, List.length_map]
    have hzl : z < s.heap.objs.size :=
        Heap.lt_size hz
    refine pyNext_zipN D hne hn hz hf0 ⟨hti, hto, hst, fun j c hj => ?_⟩ hul fun h' f0' f1' hz' hf' hti' hto' hst' hT hsz hk => ?_
    · have e : (cs.map fun c => (c.a, c.k))[j]? = some (c.a, c.k) := by rw [List.getElem?_map, hj]; rfl
      obtain ⟨items, x, a, b, d⟩ := hu j _ e
      exact ⟨items, x, a, b, d⟩
    refine ⟨_, rfl, letGo_zipN (s := { s with heap := h' }) hz' fun h'' f0'' hz'' hf'' sb => ?_⟩
    have hT2 : h''.get? s.heap.objs.size = some { cls := .type "tuple", data := .seq us.toArray } := (sb.2 _ (Nat.ne_of_gt hzl)).trans hT
    have big : xs.length ≤ sizeLine := by rw [hl, List.length_map]; exact Nat.le_trans hn (by decide)
    have new : ObjOk X.prog X.w (upd H s.heap.objs.size (.tup xs)) h'' s.heap.objs.size (.tup xs) := ⟨big, us, rv, ⟨_, hT2, rfl, _, rfl⟩⟩
    have I1 : Inv X pins σ (upd H s.heap.objs.size (.tup xs)) { s with heap := h'' } :=
      I.turnedNew (t' := s.toks) (ch := zfp z TI TO cs) (fun b o hb q => (sb.2 b (fun q' => hb (zfp_mem.mpr (.inl q')))).trans
        (hk b o (fun q' => hb (zfp_mem.mpr (.inl q'))) (fun q' => hb (zfp_mem.mpr (.inr (.inr (.inl q'))))) (fun c hc q' => hb (zfp_mem.mpr (.inr (.inr (.inr ⟨c, hc, q'⟩))))) q)) hf (Nat.le_refl _) new
    refine ⟨.ref s.heap.objs.size, _, I1, rfl, ⟨_, xs, rfl, I.hok.fresh (Nat.le_refl _), rfl, hl, fun j p ys hj hq => ?_⟩, ⟨⟨f0'', f1', hz'', ?_⟩, sb.extBut _ _ (Ne.symm D.zt) hti', ?_, fun c hc => Src.st_at (hst' c hc) fun o e => sb.extBut _ _ (D.i c hc).1 e⟩, fun b hb => ?_⟩
    · obtain ⟨zs, x, a, b, d⟩ := hx j p hj
      rw [sqA_inj I hq a, b, d]
    · rcases hf'' with rfl | rfl
      · rcases hf' with rfl | rfl
        · exact hf0
        · exact .inr ⟨_, _, rfl⟩
      · exact .inl rfl
    · obtain ⟨olds, a, b⟩ := hto'
      exact ⟨olds, sb.extBut _ _ (Ne.symm D.zo) a, b⟩
    · have hlt : b < s.heap.objs.size := by
        rcases zfp_mem.mp hb with rfl | rfl | rfl | ⟨c, hc, rfl⟩
        · exact hzl
        · exact Heap.lt_size hti
        · obtain ⟨_, a, _⟩ := hto; exact Heap.lt_size a
        · obtain ⟨_, a, _⟩ := src_obj (hst c hc); exact Heap.lt_size a
      rw [upd_ne
          (Nat.ne_of_lt hlt)]
      exact (hf b hb).1
  done := by
    intro X hP hw hK hc i pins s σ H E I hf t hg
    subst hP hw hK
    obtain ⟨⟨f0, f1, hz, hf0⟩, hti, ⟨olds, hto, ho⟩, hst⟩ := t
    obtain ⟨p, r, ys, hp, hq, hend⟩ := hg
    cases cs with
    | nil => exact absurd rfl hne
    | cons c cs =>
      rw [List.map_cons] at hp
      cases hp
      obtain ⟨its, rv, hsq⟩ := sqA_at I hq
      have hl := rv.length
      refine pyNext_zipN_end (I.ok.hd hc) D hz hf0 hti hto (hst c List.mem_cons_self) hsq (by simp; omega) fun h' hk => ⟨rfl, I.turnedL (t' := s.toks) (ch := zfp z TI TO (c :: cs)) (fun b o hb q =>
        hk b o (fun q' => hb (zfp_mem.mpr (.inl q'))) (fun q' => hb (zfp_mem.mpr (.inr (.inr (.inl q'))))) (fun d hd q' => hb (zfp_mem.mpr (.inr (.inr (.inr ⟨d, hd, q'⟩))))) q) hf⟩
  self := fun A i s Q E t h => let ⟨_, _, hz, _⟩ := t.z; pyIter_zipN hz h
/-- zip has been called over these -/
theorem pi_zipAt {X : Cx} {tg : Expr} {pins : List (Addr × Obj)} {σ : St} {H : Hp} {s : Shared} {R : It → Hp → Prop} {ps : List (Addr × Bool)} (I : Inv X pins σ H s) (h0 : ps ≠ []) (h8 : ps.length ≤ 8) (hs : ∀ p ∈ ps, ∃ ys, SqA X.K H p ys) (q : R (ItN X.K ps) H) :
    wpAny (model X.prog X.w) X.A (call (.type "zip") (ps.map fun p => Value.ref p.1)) (fun v s1 => wpAny (model X.prog X.w) X.A (pyIter v) (PIE X pins σ tg R) X.xe s1) X.xe s := by
  have hsq : ∀ p ∈ ps, ∃ items, Src.sq ⟨0, p.1, p.2⟩ items s.heap := fun p hp => let ⟨ys, a⟩ := hs p hp; let ⟨its, _, b⟩ := sqA_at I a; ⟨_, b⟩
  have hlt : ∀ p ∈ ps, p.1 < s.heap.objs.size := fun p hp => by
    obtain ⟨items, b⟩ := hsq p hp
    obtain ⟨a, k⟩ := p
    cases k
    · obtain ⟨o, e, _⟩ := (show s.heap.IsTuple a items from b); exact Heap.lt_size e
    · obtain ⟨o, e, _⟩ := (show s.heap.IsList a items from b); exact Heap.lt_size e
  refine call_zipN h8 hsq fun h' hz hti hto hst hk => pyIter_zipN hz ?_
  have I2 : Inv X pins σ H { s with heap := h' } := I.kept (t' := s.toks) hk
  have hlen := mkSrcs_len s.heap.objs.size ps
  have hget : ∀ {j : Nat} {c : Src}, (mkSrcs s.heap.objs.size ps)[j]? = some c → @Eq Nat c.it (s.heap.objs.size + j) ∧ j < ps.length ∧ (c.a, c.k) ∈ ps := fun {j c} hj => by
    obtain ⟨p, hp, rfl⟩ := mkSrcs_get.mp hj
    exact ⟨rfl, (List.getElem?_eq_some_iff.mp hp).1, List.mem_of_getElem? hp⟩
  have hmem : ∀ c ∈ mkSrcs s.heap.objs.size ps, ∃ j : Nat, @Eq Nat c.it (s.heap.objs.size + j) ∧ j < ps.length ∧ (c.a, c.k) ∈ ps := fun c hc => let ⟨j, hj⟩ := List.mem_iff_getElem?.mp hc; ⟨j, hget hj⟩
  have eq2 : (mkSrcs s.heap.objs.size ps).map (fun c => (c.a, c.k)) = ps := by
    refine List.ext_getElem? fun j =>
        ?_
    rw [List.getElem?_map]
    cases e : ps[j]? with
    | none => rw [List.getElem?_eq_none (by rw [hlen]; exact List.getElem?_eq_none_iff.mp e)]; rfl
    | some p => rw [mkSrcs_get.mpr ⟨p, e, rfl⟩]; rfl
  have D : ZA (s.heap.objs.size + ps.length + 2) (s.heap.objs.size + ps.length) (s.heap.objs.size + ps.length + 1) (mkSrcs s.heap.objs.size ps) := by
    refine ⟨show @Ne Nat _ _ by omega, show @Ne Nat _ _ by omega, show @Ne Nat _ _ by omega, fun c hc => ?_, ?_, fun c hc => ?_⟩
    · obtain ⟨j, e, hj, _⟩ := hmem c hc
      exact ⟨show @Ne Nat _ _ by omega, show @Ne Nat _ _ by omega, show @Ne Nat _ _ by omega⟩
    · refine List.pairwise_iff_getElem.mpr fun j k hj hk hjk e => ?_
      rw [List.getElem_map, List.getElem_map] at e
      have e1 := (hget (List.getElem?_eq_getElem (by simpa using hj))).1
      have e2 := (hget (List.getElem?_eq_getElem (by simpa using hk))).1
      have e' := e1.symm.trans (Eq.trans e e2)
      omega
    · obtain ⟨j, _, _, hp⟩ := hmem c hc
      have q : @LT.lt Nat _ c.a s.heap.objs.size := hlt _ hp
      refine ⟨show @Ne Nat _ _ by omega, show @Ne Nat _ _ by omega, fun d hd => ?_⟩
      obtain ⟨k, e, _⟩ := hmem d hd
      exact show @Ne Nat _ _ by omega
  have T := turn_zipN (P := X.prog) (w := X.w) (K := X.K) (tg := tg) D (fun e => h0 (by rw [← eq2, e]; rfl)) (by rw [hlen]; omega)
  rw [eq2] at T
  refine ⟨_, _, _, _, H, rfl, I2, T, ⟨⟨_, _, hz, .inl rfl⟩, hti, by rw [hlen]; exact hto, hst⟩, fun b hb => ?_, q⟩
  have hle : @LE.le Nat _ s.heap.objs.size b := by
    rcases zfp_mem.mp hb with rfl | rfl | rfl | ⟨c, hc, rfl⟩
    · exact show @LE.le Nat _ _ _ by omega
    · exact show @LE.le Nat _ _ _ by omega
    · exact show @LE.le Nat _ _ _ by omega
    · obtain ⟨j, e, _⟩ := hmem c hc; omega
  exact I.fpOk hle (I.hok.fresh hle)
end Mir
end

section
set_option Elab.async false
set_option linter.all false
set_option maxRecDepth 100000
set_option maxHeartbeats 2001000
/-! zip(a, b, ..), zip(*xs): mirrors. -/
namespace Mir
open PySem L2

theorem walk_at {K : PySem.W.Frag} {W : Wd} (rs : RS K W) {v : V} {d : D} {p : Pk} (r : RD W v d) (h : walkD W.S d = some p) :
    ∃ q : Addr × Bool, v = .ref q.1 ∧ (∃ ys, SqA K W.H q ys) ∧ ∀ W', Le W W' → RS K W' → p.2 W'.S → ∃ vs, SqA K W'.H q vs ∧ RDs W' vs p.1 := by
  cases r with
  | tup h1 h2 h3 =>
    cases h
    exact ⟨(_, false), rfl, ⟨_, .inl (.inl h1)⟩, fun W' l rs' _ => ⟨_, .inl (.inl (l.k _ _ h1 h2).1), h3.mono l⟩⟩
  | lst h1 h2 h3 =>
    cases h
    exact ⟨(_, true), rfl, ⟨_, .inl (.inl h1)⟩, fun W' l rs' _ => ⟨_, .inl (.inl (l.k _ _ h1 h2).1), h3.mono l⟩⟩
  | frz h1 h3 =>
    cases h
    exact ⟨(_, true), rfl, ⟨_, h1.sq rs⟩, fun W' l rs' _ => ⟨_, (h1.mono l).sq rs', h3.mono l⟩⟩
  | ref l hl =>
    have h' : ((W.S l).bind fun o => match o with
      | .lst xs => some ((xs, fun T => T l = some (.lst xs)) : Pk)
      | _ => none) = some p := h
    cases e : W.S l with
    | none =>
        rw [e] at h'; cases h'
    | some o =>
      rw [e] at h'
      cases o with
      | lst xs =>
        cases h'
        obtain ⟨vs, h1, h2⟩ := rs.obj _ _ e
        refine ⟨(W.μ l, true), rfl, ⟨_, .inl (.inl h1)⟩, fun W' l' rs' hk => ?_⟩
        obtain ⟨us, h3, h4⟩ := rs'.obj _ _ hk
        rw [l'.μ _ hl] at h3
        exact ⟨us, .inl (.inl h3), h4⟩
      | _ => cases h'
  | _ => cases h
def walksD (S : Store) : List D → Option (List (List D) × (Store → Prop))
  | [] => some ([], fun _ => True)
  | d :: ds => match walkD S d, walksD S ds with
    | some p, some q => some (p.1 :: q.1, fun T => p.2 T ∧ q.2 T)
    | _, _ => none
theorem walks_at {K : PySem.W.Frag} {W : Wd} (rs : RS K W) : ∀ {ds : List D} {vs : List V} {xss : List (List D)} {Kp : Store → Prop}, RDs W vs ds → walksD W.S ds = some (xss, Kp) →
    ∃ ps : List (Addr × Bool), vs = ps.map (fun p => V.ref p.1) ∧ ps.length = xss.length ∧ (∀ p ∈ ps, ∃ ys, SqA K W.H p ys) ∧ ∀ W', Le W W' → RS K W' → Kp W'.S → ∀ (j : Nat) (p : Addr × Bool) (xs : List D), ps[j]? = some p → xss[j]? = some xs → ∃ us, SqA K W'.H p us ∧ RDs W' us xs
  | [], _, _, _, .nil, h => by
    cases h
    exact ⟨[], rfl, rfl, fun p hp => absurd hp List.not_mem_nil, fun _ _ _ _ j p xs hj _ => by simp at hj⟩
  | d :: ds, v :: vs, xss, Kp, .cons r1 r2, h => by
    unfold walksD at h
    split at h
    · rename_i p q e1 e2
      obtain ⟨xs', Kq⟩ := q
      cases h
      obtain ⟨a, ea, a1, a2⟩ := walk_at (K := K) rs r1 e1
      obtain ⟨ps, eps, hl, b1, b2⟩ := walks_at (K := K) rs r2 e2
      refine ⟨a :: ps, by rw [ea, eps]; rfl, by simp [hl], fun x hx => ?_, fun W' l rs' hk j x xs hj hxs => ?_⟩
      · rcases List.mem_cons.mp hx with rfl | hx
        · exact a1
        · exact b1 x hx
      · cases j with
        | zero =>
          simp at hj hxs
          subst hj hxs
          exact a2 W' l rs' hk.1
        | succ j => exact b2 W' l rs' hk.2 j x xs (by simpa using hj) (by simpa using hxs)
    · cases h
/-- the items at place i of all -/
def colD (xss : List (List D)) (i : Nat) : List D := xss.filterMap fun xs => xs[i]?
def zipD : List (List D) → List D
  | [] => []
  | x :: xr => (List.range x.length).map fun i => .tup (colD (x :: xr) i)
theorem colD_get : ∀ {xss : List (List D)} {i : Nat}, (∀ xs ∈ xss, i < xs.length) → (colD xss i).length = xss.length ∧ ∀ (j : Nat) (xs : List D), xss[j]? = some xs → (colD xss i)[j]? = xs[i]?
  | [], _, _ => ⟨rfl, fun j xs h => by simp at h⟩
  | x :: xss, i, h => by
    obtain ⟨h1, h2⟩ := colD_get (xss := xss) (i := i) fun xs hx => h xs (List.mem_cons_of_mem _ hx)
    have hi : i < x.length := h x List.mem_cons_self
    have e : x[i]? = some x[i] := List.getElem?_eq_getElem hi
    have e2 : colD (x :: xss) i = x[i] :: colD xss i := by unfold colD; rw [List.filterMap_cons, e]
    rw [e2]
    refine ⟨by simp [h1], fun j xs hj => ?_⟩
    cases j with
    | zero =>
      simp at hj
      subst hj
      simp [e]
    | succ j => simpa using h2 j xs (by simpa using hj)
theorem RDs.of_get {W : Wd} : ∀ {vs : List V} {ds : List D}, vs.length = ds.length → (∀ (j : Nat) (v : V) (d : D), vs[j]? = some v → ds[j]? = some d → RD W v d) → RDs W vs ds
  | [], [], _, _ => .nil
  | [], _ :: _, h, _ =>
      by simp at h
  | _ :: _, [], h, _ =>
      by simp at h
  | v :: vs, d :: ds, h, q => .cons (q 0 v d rfl rfl) (RDs.of_get (by simpa using h) fun j x y a b => q (j + 1) x y (by simpa using a) (by simpa using b))
theorem jr_zip {K : PySem.W.Frag} {W : Wd} {ps : List (Addr × Bool)} {x : List D} {xr : List (List D)} {Kp : Store → Prop} (hl : ps.length = (x :: xr).length) (hs : ∀ y ∈ xr, x.length ≤ y.length)
    (h : ∀ W', Le W W' → RS K W' → Kp W'.S → ∀ (j : Nat) (p : Addr × Bool) (xs : List D), ps[j]? = some p → (x :: xr)[j]? = some xs → ∃ us, SqA K W'.H p us ∧ RDs W' us xs) : JR K W (ItN K ps) (zipD (x :: xr)) Kp := by
  intro W' l rs hk
  have g := h W' l rs hk
  have lens : (zipD (x :: xr)).length = x.length := by unfold zipD; rw [List.length_map, List.length_range]
  refine ⟨fun i d e => ?_, ?_⟩
  · have hi : i < x.length := by have z := (List.getElem?_eq_some_iff.mp e).1; omega
    have ed : d = .tup (colD (x :: xr) i) := by
      unfold zipD at e
      rw [List.getElem?_map, List.getElem?_range hi] at e
      cases e; rfl
    subst ed
    have all : ∀ xs ∈ x :: xr, i < xs.length := fun xs hx => by
      rcases List.mem_cons.mp
          hx with rfl | hx
      · exact hi
      · exact Nat.lt_of_lt_of_le hi (hs xs hx)
    obtain ⟨c1, c2⟩ := colD_get all
    refine ⟨?_, ?_⟩
    · -- the values
      have ex : ∀ j : Nat, j < ps.length → ∃ (y : V), ∃ (p : Addr × Bool) (ys : List V), ps[j]? = some p ∧ SqA K W'.H p ys ∧ ys[i]? = some y := fun j hj => by
        have e1 : ps[j]? = some ps[j] := List.getElem?_eq_getElem hj
        have e2 : (x :: xr)[j]? = some (x :: xr)[j] := List.getElem?_eq_getElem (by omega)
        obtain ⟨us, a, b⟩ := g j _ _ e1 e2
        have hlt : i < us.length := by rw [b.length]; exact all _ (List.getElem_mem _)
        exact ⟨us[i], ps[j], us, e1, a, List.getElem?_eq_getElem hlt⟩
      have build : ∀ n : Nat, n ≤ ps.length → ∃ xs : List V, xs.length = n ∧ ∀ (j : Nat) (p : Addr × Bool), j < n → ps[j]? = some p → ∃ (ys : List V) (y : V), SqA K W'.H p ys ∧ ys[i]? = some y ∧ xs[j]? = some y := by
        intro n
        induction n with
        | zero => exact fun _ => ⟨[], rfl, fun j p hj => absurd hj (Nat.not_lt_zero _)⟩
        | succ n ih =>
          intro hn
          obtain ⟨xs, e1, e2⟩ := ih (by omega)
          obtain ⟨y, p, ys, a, b, c⟩ := ex n (by omega)
          refine ⟨xs ++ [y], by simp [e1], fun j q hj hq => ?_⟩
          by_cases e : j = n
          · subst e
            rw [a] at hq; cases hq
            exact ⟨ys, y, b, c, by rw [List.getElem?_append_right (by omega), e1]; simp⟩
          · obtain ⟨zs, z, a', b', c'⟩ := e2 j q (by omega) hq
            exact ⟨zs, z, a', b', by rw [List.getElem?_append_left (by omega)]; exact c'⟩
      obtain ⟨xs, e1, e2⟩ := build ps.length (Nat.le_refl _)
      exact ⟨xs, e1, fun j p hp => e2 j p (List.getElem?_eq_some_iff.mp hp).1 hp⟩
    · rintro v H' ⟨T, xs, rfl, hT, rfl, hxl, hx⟩
      refine ⟨W'.add T (.tup xs), rfl, rfl, Le.add rs hT, rs.add hT, new_tup rs hT (RDs.of_get (by rw [hxl, hl, c1]) fun j v d hv hd => ?_)⟩
      have hj : j < ps.length := by have z := (List.getElem?_eq_some_iff.mp hv).1; omega
      have e1 : ps[j]? = some ps[j] := List.getElem?_eq_getElem hj
      have e2 : (x :: xr)[j]? = some (x :: xr)[j] := List.getElem?_eq_getElem (by omega)
      obtain ⟨us, a, b⟩ := g j _ _ e1 e2
      have e3 := hx j _ us e1 a
      rw [hv] at e3
      have e4 := c2 j _ e2
      rw [hd] at e4
      obtain ⟨d', e5, rd⟩ := b.get' e3.symm
      rw [← e4] at e5
      cases e5
      exact rd
  · rw [lens]
    cases ps with
    | nil => simp at hl
    | cons p ps =>
      obtain ⟨us, a, b⟩ := g 0 p x rfl rfl
      exact ⟨p, ps, us, rfl, a, Nat.le_of_eq b.length⟩
def zipAns (S : Store) (ds : List D) (Q : Pk → Store → Prop) : Prop := match walksD S ds with
  | some (x :: xr, Kp) => xr.length < 8 ∧ (∀ y ∈ xr, x.length ≤ y.length) ∧ Q (zipD (x :: xr), Kp) S
  | _ => False
def mZip (ms : Mr (List D)) : Mr Pk := fun ρ S Q X => ms ρ S (fun ds S1 => zipAns S1 ds Q) X
def mZipS (me : Mr D) : Mr Pk := fun ρ S Q X => me ρ S (fun d S1 => match asQ S1 d with
  | some ds => zipAns S1 ds Q
  | none => False) X
theorem vals_refs : ∀ {ps : List (Addr × Bool)} {us : List Value}, Vals (ps.map fun p => V.ref p.1) us → us = ps.map fun p => Value.ref p.1
  | [], _, .nil => rfl
  | p :: ps, _, .cons r t => by
    cases r
    rw [vals_refs t]
    rfl
theorem zip_ok {X : Cx} {tg : Expr} {pins : List (Addr × Obj)} {σ : St} {s : Shared} {R : It → Hp → Prop} {W : Wd} {Q : Pk → Store → Prop} {vs : List V} {ds : List D} {us : List Value} (I : Inv X pins σ W.H s) (rs : RS X.K W) (r : RDs W vs ds) (rv : Vals vs us)
    (k : ∀ (W' : Wd) (J : It) (p : Pk), Le W W' → RS X.K W' → JR X.K W' J p.1 p.2 → Q p W'.S → R J W'.H) (m : zipAns W.S ds Q) :
    wpAny (model X.prog X.w) X.A (call (.type "zip") us) (fun v s1 => wpAny (model X.prog X.w) X.A (pyIter v) (PIE X pins σ tg R) X.xe s1) X.xe s := by
  unfold zipAns at m
  split at m
  · rename_i x xr Kp e
    obtain ⟨ps, e1, hl, h1, h2⟩ := walks_at (K := X.K) rs r e
    subst e1
    rw [vals_refs rv]
    exact pi_zipAt I (fun z => by subst z; simp at hl) (by rw [hl]; exact m.1) h1 (k W _ _ (Le.refl W) rs (jr_zip hl m.2.1 fun W' l rs' hk => h2 W' l rs' hk) m.2.2)
  · exact m.elim
theorem ji_zip {X : Cx} {tg e : Expr} {es : List Expr} {p pos : Pos} {ms : Mr (List D)} (ha : JA X (e :: es) ms) (hm : X.mg "zip" = none) (hg : Gl X "zip" := by rfl) (hs : starEach (e :: es) X.env = (false, eval e X.env) :: starEach es X.env := by rfl) (hpl : (backTo pos (starEach es X.env)).any (·.1) = false := by rfl) :
    JI X tg (.Call (.Name "zip" p) (e :: es) [] pos) (mZip ms) := by
  constructor
  intro Wx tk
  refine ⟨fun pins s σ H R I h =>
      ?_⟩
  obtain ⟨W, ρ, Qm, Xm, rfl, rs, re, xr, k, q⟩ := h
  have q' : tA X.K ms Wx σ W.H fun vs H1 => ∃ (W1 : Wd) (ds : List D), W1.H = H1 ∧ RS X.K W1 ∧ RDs W1 vs ds ∧ Le W W1 ∧ zipAns W1.S ds Qm := ⟨W, ρ, _, Xm, rfl, rs, re, xr, fun W1 vs ds l rs1 r1 q1 => ⟨W1, ds, rfl, rs1, r1, l, q1⟩, q⟩
  refine PyProof.Rows.Call_ (ld_blt I hg hm PyProof.Rows.boot_zip (PyProof.Rows.callWith_type1 (thn ((ha.pa Wx tk).run pos pins s σ W.H _ I q') fun us s1 ⟨vs, H1, I1, r1, W1, ds, eH, rs1, rd, l, q1⟩ => ?_) hs hpl))
  subst eH
  exact zip_ok I1 rs1 rd r1 (fun W' J p l' => k W' J p (l.trans l')) q1
theorem ji_zipS {X : Cx} {tg e : Expr} {sp p pos : Pos} {me : Mr D} (he : JE X e me) (hm : X.mg "zip" = none) (hg : Gl X "zip" := by rfl) (hst : starEach [.Starred e sp] X.env = [(true, eval e X.env)] := by rfl) :
    JI X tg (.Call (.Name "zip" p) [.Starred e sp] [] pos) (mZipS me) := by
  constructor
  intro Wx tk
  refine ⟨fun pins s σ H R I h =>
      ?_⟩
  obtain ⟨W, ρ, Qm, Xm, rfl, rs, re, xr, k, q⟩ := h
  have q' : tE X.K me Wx σ W.H fun v H1 => ∃ (W1 : Wd) (d : D) (ds : List D), W1.H = H1 ∧ RS X.K W1 ∧ RD W1 v d ∧ Le W W1 ∧ asQ W1.S d = some ds ∧ zipAns W1.S ds Qm := ⟨W, ρ, _, Xm, rfl, rs, re, xr, fun W1 v d l rs1 r1 q1 => by
    split at q1
    · rename_i ds e
      exact ⟨W1, d, ds, rfl, rs1, r1, l, e, q1⟩
    · exact q1.elim, q⟩
  refine PyProof.Rows.Call_ (ld_blt I hg hm PyProof.Rows.boot_zip ?_)
  rw [hst]
  refine PySem.W.ks_call (P := fun _ => True) rfl (fun h _ => ⟨.machine, .inr (.inl rfl), PySem.W.Looks.now⟩) (PySem.W.ks_lone (thn ((he.pe Wx tk).run pins s σ W.H _ I q') fun v s1 ⟨x, H1, I1, r1, W1, d, ds, eH, rs1, rd, l, ed, q1⟩ => ?_))
  subst eH
  obtain ⟨a, vs, rfl, h1, h2⟩ := asQ_of (K := X.K) rs1 rd ed
  obtain rfl : v = Value.ref a :=
      r1
  exact StX.star_any I1 (h1.symm) fun us s2 I2 rv => ⟨trivial, zip_ok I2 rs1 h2 rv (fun W' J p l' => k W' J p (l.trans l')) q1⟩
end Mir
end

section
set_option Elab.async false
set_option linter.all false
set_option maxRecDepth 100000
set_option maxHeartbeats 2001000
/-! a, b = x, y; short words. -/
namespace Mir
open PySem L2
section
variable {X : Cx} {a b c e : Expr} {me : Mr D} {ms : Mr (List D)} {pos : Pos}
def mPar (i j : Nat) (ms : Mr (List D)) : MS := fun M ρ S => ms ρ S (fun ds S1 => match ds with
  | [d, d'] => M.nx ((ρ.set i (some d)).set j (some d')) S1
  | _ => False) (M.x ρ)
theorem js_par {i j : Nat} {x y : Str} {px py pt : Pos} {kt k2 pt2} (hc : X.calm = true) (hN : X.N.Nodup) (hi : X.N[i]? = some x) (hj : X.N[j]? = some y) (hij : i ≠ j)
    (hx : X.env.scope.names.lookup x = some .local) (hy : X.env.scope.names.lookup y = some .local) (hw : swappedStores [.Tuple [.Name x px, .Name y py] kt pt] (.Tuple [a, b] k2 pt2) X.env = pure (some [x, y])) (ha : JA X [a, b] ms)
    (hs : swapsWithSole [.Tuple [.Name x px, .Name y py] kt pt] (.Tuple [a, b] k2 pt2) pos.line X.env = pure false := by rfl) : JS X (.Assign [.Tuple [.Name x px, .Name y py] kt pt] (.Tuple [a, b] k2 pt2) pos) (mPar i j ms) :=
  ⟨fun Wx tk => ps_imp (ps_par hc hN hi hj hij hx hy (ha.pa Wx tk) hw hs) fun D0 σ H ⟨W, ρ, M, eH, rs, re, er, q⟩ => by
    subst eH
    refine ⟨W, ρ, _, M.x ρ, rfl, rs, re, er.xc W σ ρ (Le.refl W) rs re, fun W1 vs ds l rs1 r1 q1 => ?_, q⟩
    split at q1
    · cases r1 with
      | cons r2 r3 => cases r3 with
        | cons r4 r5 =>
          cases r5
          exact ⟨_, _, rfl, er.nx W1 _ _ l rs1 (((re.mono l).set i r2).set j r4) q1⟩
    · exact q1.elim⟩
def mPar3 (i j k : Nat) (ms : Mr (List D)) : MS := fun M ρ S => ms ρ S (fun ds S1 => match ds with
  | [d, d', d''] => M.nx (((ρ.set i (some d)).set j (some d')).set k (some d'')) S1
  | _ => False) (M.x ρ)
theorem js_par3 {i j l : Nat} {x y z : Str} {px py pz pt : Pos} {kt k2 pt2} (hc : X.calm = true) (hN : X.N.Nodup) (hi : X.N[i]? = some x) (hj : X.N[j]? = some y) (hl : X.N[l]? = some z) (hij : i ≠ j) (hil : i ≠ l) (hjl : j ≠ l)
    (hx : X.env.scope.names.lookup x = some .local) (hy : X.env.scope.names.lookup y = some .local) (hz : X.env.scope.names.lookup z = some .local)
    (hw : swappedStores [.Tuple [.Name x px, .Name y py, .Name z pz] kt pt] (.Tuple [a, b, c] k2 pt2) X.env = pure (some [x, y, z])) (ha : JA X [a, b, c] ms)
    (hs : swapsWithSole [.Tuple [.Name x px, .Name y py, .Name z pz] kt pt] (.Tuple [a, b, c] k2 pt2) pos.line X.env = pure false := by rfl) : JS X (.Assign [.Tuple [.Name x px, .Name y py, .Name z pz] kt pt] (.Tuple [a, b, c] k2 pt2) pos) (mPar3 i j l ms) :=
  ⟨fun Wx tk => ps_imp (ps_par3 hc hN hi hj hl hij hil hjl hx hy hz (ha.pa Wx tk) hw hs) fun D0 σ H ⟨W, ρ, M, eH, rs, re, er, q⟩ => by
    subst eH
    refine ⟨W, ρ, _, M.x ρ, rfl, rs, re, er.xc W σ ρ (Le.refl W) rs re, fun W1 vs ds l rs1 r1 q1 => ?_, q⟩
    split at q1
    · cases r1 with
      | cons r2 r3 => cases r3 with
        | cons r4 r5 => cases r5 with
          | cons r6 r7 =>
            cases r7
            exact ⟨_, _, _, rfl, er.nx W1 _ _ l rs1 ((((re.mono l).set i r2).set j r4).set _ r6) q1⟩
    · exact q1.elim⟩
/-! ### short words -/
theorem jv (i : Nat) {x : Str} {p : Pos} (hN : X.N[i]? = some x := by rfl) (hv : Vis X.env.scope x := by first | exact Or.inl rfl | exact Or.inr (Or.inl rfl) | exact Or.inr (Or.inr rfl)) (hd : (x == ("__debug__" : Str)) = false := by decide) (hcd : (x == ("__classdict__" : Str)) = false := by decide) : JE X (.Name x p) (mVar i) := je_var (pv i hN hv hd hcd)
theorem jn (i : Nat) {x : Str} {p : Pos} (hn : X.N.Nodup := by decide +kernel) (hN : X.N[i]? = some x := by rfl) (hv : Loc X.env.scope x := by first | exact Or.inl rfl | exact Or.inr rfl) (hf : X.fn x = true ∨ X.env.scope.names.lookup x = some .local := by first | exact .inl rfl | exact .inr rfl) : JG X (.Name x p) (gN i) := jg_name (pg_name hn hN hv hf)
theorem jset (i : Nat) {x : Str} {p' : Pos} (he : JE X e me) (hn : X.N.Nodup := by decide +kernel) (hN : X.N[i]? = some x := by rfl) (hv : Loc X.env.scope x := by first | exact Or.inl rfl | exact Or.inr rfl) (hs : swapsWith e (some (.Name x p')) pos.line X.env = pure false := by rfl) (hf : X.fn x = true ∨ X.env.scope.names.lookup x = some .local := by first | exact .inl rfl | exact .inr rfl) :
    JS X (.Assign [.Name x p'] e pos) (mSet i me) := js_set hn hN hv he hs hf
end
end Mir
end

section
set_option Elab.async false
set_option linter.all false
set_option maxRecDepth 100000
set_option maxHeartbeats 2001000
/-! list(range(..)). -/
namespace Mir
open PySem L2
section
variable {X : Cx} {a b c e : Expr} {ma mb me : Mr D} {ms : Mr (List D)} {pos : Pos}
theorem rg_RDs {W : Wd} (lo hi : Int) : RDs W (rgV lo hi) (rgD lo (hi - lo).toNat) := by
  have z := RDs.ints (W := W) ((List.range (hi - lo).toNat).map fun i => lo + (i : Nat))
  rw [List.map_map, List.map_map] at z
  exact z
theorem rg_ok {n : Int} (h : -1000000 ≤ n ∧ n ≤ 1000000) : RgOk 0 n := ⟨by omega, by omega, by omega, by omega, by omega⟩
def mListRg (me : Mr D) : Mr D := fun ρ S Q X => me ρ S (fun d S1 => match d with
  | .int n => (-1000000 ≤ n ∧ n ≤ 1000000) ∧ Q (.lst (rgD 0 (n - 0).toNat)) S1
  | _ => False) X
theorem je_listRg {p p2 pos2 : Pos} (hc : X.calm = true) (hm : X.mg "list" = none) (hm2 : X.mg "range" = none) (ha : JE X a ma) (hg : Gl X "list" := by rfl) (hg2 : Gl X "range" := by rfl) (na : starEach [a] X.env = (false, eval a X.env) :: starEach [] X.env := by rfl)
    (na2 : starEach [.Call (.Name "range" p2) [a] [] pos2] X.env = (false, eval (.Call (.Name "range" p2) [a] [] pos2) X.env) :: starEach [] X.env := by rfl) : JE X (.Call (.Name "list" p) [.Call (.Name "range" p2) [a] [] pos2] [] pos) (mListRg ma) :=
  ⟨fun Wx tk => pe_imp (pe_listRg hc hg hm (prg_1 hg2 hm2 (ha.pe Wx tk) na) na2) fun σ H Q ⟨W, ρ, Qm, Xm, eH, rs, re, xr, k, q⟩ => by
    subst eH
    refine ⟨W, ρ, _, Xm, rfl, rs, re, xr, fun W1 v d l rs1 r1 q1 => ?_, q⟩
    cases r1 <;> first | exact q1.elim | skip
    exact ⟨_, rfl, rg_ok q1.1, (k.mono l).lst rs1 (rg_RDs 0 _) q1.2⟩⟩
def mListRgN (me : Mr D) : Mr D := fun ρ S Q X => me ρ S (fun d S1 => match d with
  | .int n => (-1000000 ≤ n ∧ n ≤ 1000000) ∧ ∀ l, S1 l = none → Q (.ref l) (put S1 l (.lst (rgD 0 (n - 0).toNat)))
  | _ => False) X
theorem je_listRgN {p p2 pos2 : Pos} (hc : X.calm = true) (hm : X.mg "list" = none) (hm2 : X.mg "range" = none) (ha : JE X a ma) (hg : Gl X "list" := by rfl) (hg2 : Gl X "range" := by rfl) (na : starEach [a] X.env = (false, eval a X.env) :: starEach [] X.env := by rfl)
    (na2 : starEach [.Call (.Name "range" p2) [a] [] pos2] X.env = (false, eval (.Call (.Name "range" p2) [a] [] pos2) X.env) :: starEach [] X.env := by rfl) : JE X (.Call (.Name "list" p) [.Call (.Name "range" p2) [a] [] pos2] [] pos) (mListRgN ma) :=
  ⟨fun Wx tk => pe_imp (pe_listRg hc hg hm (prg_1 hg2 hm2 (ha.pe Wx tk) na) na2) fun σ H Q ⟨W, ρ, Qm, Xm, eH, rs, re, xr, k, q⟩ => by
    subst eH
    refine ⟨W, ρ, _, Xm, rfl, rs, re, xr, fun W1 v d l rs1 r1 q1 => ?_, q⟩
    cases r1 <;> first | exact q1.elim | skip
    exact ⟨_, rfl, rg_ok q1.1, (k.mono l).new (o := .lst _) rs1 (fun p hp => ⟨_, upd_same, (rg_RDs 0 _).mono (Le.new rs1 hp)⟩) q1.2⟩⟩
end
end Mir
namespace Mir
open PySem L2
/-- a comprehension's scope, checked -/
def blkB (N : List Str) (sc scope : Scope) (own : List (Str × Nat)) : Bool :=
  decide (scope.kind = .function) && scope.names.all (fun y => decide (scope.names.lookup y.1 = some y.2)) && own.all (fun p => decide (N[p.2]? = some p.1)) &&
  scope.names.all (fun y => !decide (y.2 = .free) || (decide (sc.names.lookup y.1 = some .cell) || decide (sc.names.lookup y.1 = some .free))) &&
  scope.names.all (fun y => !(decide (y.2 = .local) || decide (y.2 = .cell)) || (decide (y.1 ∈ own.map (·.1)) || decide (y.1 ∉ N)))
theorem blk_mk {N : List Str} {sc scope : Scope} {own : List (Str × Nat)} (h : blkB N sc scope own = true) : BlkOk N sc scope own := by
  unfold blkB at h
  simp only [Bool.and_eq_true, List.all_eq_true, decide_eq_true_eq, Bool.or_eq_true, Bool.not_eq_true', decide_eq_false_iff_not] at h
  obtain ⟨⟨⟨⟨h1, h2⟩, h3⟩, h4⟩, h5⟩ := h
  refine ⟨h1, h2, h3, fun y hy e => ?_, fun y hy e => ?_⟩
  · exact (h4 y hy).resolve_left fun z => z e
  · rcases h5 y hy with z | z
    · rcases e with e | e <;> simp [e] at z
    · exact z
theorem pn {X : Cx} (i : Nat) {x : Str} {p : Pos} (hn : X.N.Nodup) (hN : X.N[i]? = some x := by rfl) (hv : Loc X.env.scope x := by first | exact Or.inl rfl | exact Or.inr rfl) (hf : X.fn x = true ∨ X.env.scope.names.lookup x = some .local := by first | exact .inl rfl | exact .inr rfl) : PG X (.Name x p) (gName i) := pg_name hn hN hv hf
end Mir
end

section
set_option Elab.async false
set_option linter.all false
set_option maxRecDepth 100000
set_option maxHeartbeats 2001000
/-! Tests that are chains or ask a dict. -/
namespace Mir
open PySem L2
section
variable {X : Cx} {a b c e o i : Expr} {ma mb mc me mo mi : Mr D} {pos : Pos}
theorem test_of {m : Mr D} {Wx : WX} {σ : St} {H : Hp} {Q : Bool → Hp → Prop} (h : tT K (mT m) Wx σ H Q) : tE K m Wx σ H fun x H' => ∃ k, x = .bl k ∧ Q k H' := by
  obtain ⟨W, ρ, Qm, Xm, eH, rs, re, xr, k, m⟩ := h
  refine ⟨W, ρ, _, Xm, eH, rs, re, xr, fun W1 x d l1 rs1 r1 m1 => ?_, m⟩
  cases r1 <;> first | exact m1.elim | exact ⟨_, rfl, k W1 _ _ l1 rs1 rfl m1⟩
theorem jt_chain {op op' : CmpOp} {f g : F2} {r r' : R2} (ha : JE X a ma) (hb : JE X b mb) (hc : JE X c mc) (ho : OpR X (compareOp op) r) (hs : Snd2 X.K f r) (ho' : OpR X (compareOp op') r') (hs' : Snd2 X.K g r') (hm : lastMarks [op, op'] [b, c] = false := by with_unfolding_all rfl) :
    JT X (.Compare a [op, op'] [b, c] pos) (mT (mChain f g ma mb mc)) := ⟨fun Wx tk => pt_imp (pt_chain ho ho' (ha.pe Wx tk) (hb.pe Wx tk) (hc.pe Wx tk) hm) fun _ _ _ h => chain_ok (op := op) (op' := op') hs hs' (test_of h)⟩
theorem jt_din (hu : X.A.units + 1 < cLine) (hi : JE X i mi) (ho : JE X o mo) (h1 : behindInMarks .In o = false := by rfl) : JT X (.Compare i [.In] [o] pos) (mT (mDIn false mi mo)) :=
  ⟨fun Wx tk => pt_imp (pt_cmp (pc_din hu (hi.pe Wx tk) (ho.pe Wx tk)) h1) fun σ H Q h => by
    have z := din_of (test_of h)
    simp only [Bool.false_xor] at z
    exact z⟩
theorem jt_dnin (hu : X.A.units + 1 < cLine) (hi : JE X i mi) (ho : JE X o mo) (h1 : behindInMarks .NotIn o = false := by rfl) : JT X (.Compare i [.NotIn] [o] pos) (mT (mDIn true mi mo)) :=
  ⟨fun Wx tk => pt_imp (pt_cmp (pc_dnotin hu (hi.pe Wx tk) (ho.pe Wx tk)) h1) fun σ H Q h => by
    have z := din_of (test_of h)
    simp only [Bool.true_xor] at z
    exact z⟩
end
end Mir
end

section
set_option Elab.async false
set_option linter.all false
set_option maxRecDepth 100000
set_option maxHeartbeats 2001000
/-! The law's own call: from its mirror to the statement. -/
namespace Mir
open PySem PySem.Spec L2
open PyProof.Rows

/-- a world in which nothing lives; K's own lists are known -/
def W0 (K : PySem.W.Frag) (H : Hp) : Wd := ⟨fun _ => 0, 0, fun _ => none, H, SqC K, []⟩
theorem rs0 (K : PySem.W.Frag) (H : Hp) : RS K (W0 K H) := ⟨fun _ _ e => (nomatch e), fun _ _ e => (nomatch e), fun _ _ _ _ e => (nomatch e), fun _ _ h => h, nofun⟩
theorem no_live0 {K : PySem.W.Frag} {H : Hp} {a : Addr} : ¬ Live (W0 K H) a := fun ⟨_, _, e, _⟩ => nomatch e
/-- what a law's mirror promises -/
def LawIs (F : MF) : Prop := ∀ ns : List Int, ns.length ≤ 63 → F [.frz (ns.map D.int)] (fun _ => none) (fun d _ => d = .bl true) fun _ _ _ => False
theorem law_callG {P : Program} {w : World} {K : PySem.W.Frag} {mg mb : Str → Option Value} {k : Nat} {fa a : Addr} {F : MF} {s₁ : Shared} {vs : List Value} {ns : List Int}
    (KX : K.In s₁.heap) (hns : s₁.heap.Ns mainGlobals mg) (hb : s₁.heap.Ns builtinsNs mb)
        (hbb : ∀ x : Str, x ≠ "__name__" → mb x = bootBuiltins x) (hlim : s₁.heap.NoLimit) (hg : s₁.gens = #[])
    (ha : s₁.heap.get? a = some { cls := .type "list", data := .seq vs.toArray }) (hi : IntsAre vs ns) (hl : ns.length ≤ 63) (hr : Room k callerA)
    (G : ∀ base : Heap, K.In base → base.Ns mainGlobals mg → FnG P w K mg base k fa 1 [] F) (hF : LawIs F) :
    codeAny (model P w) callerA (.call (.ref fa) ⟨[.ref a], []⟩) (fun r s' =>
        r = .ok (.ret (.bool true)) ∧ OldK s₁.heap s'.heap ∧ s'.os = s₁.os ∧ AllBare s'.gens) s₁ := by
  have rv : Vals (ns.map V.int) vs := vals_ints hi
  have lenV : vs.length = ns.length := hi.length
  have big : ns.length ≤ sizeLine := Nat.le_trans hl (by decide)
  have core : ∀ H : Hp, (∀ b, H b = none ∨ ∃ o xs, H b = some (.frz o (.lst xs))) → FzL (W0 K H) a (ns.map V.int) → HOk P w H s₁.heap → (∀ b, H b ≠ none → b = a) →
      (H a ≠ none → K.lookup a = none) → codeAny (model P w) callerA (.call (.ref fa) ⟨[.ref a], []⟩) (fun r s' => r = .ok (.ret (.bool true)) ∧ OldK s₁.heap s'.heap ∧ s'.os = s₁.os ∧ AllBare s'.gens) s₁ := by
    intro H hO hS hok hA hK
    have only : ∀ {b : Addr}, b ≠ a → H b = none := fun {b} hb => by
      cases q : H b with
      | none => rfl
      | some u => exact absurd (hA b (by rw [q]; exact fun z => nomatch z)) hb
    have noA : ∀ {b : Addr} {o : Obj} {es : Array DictEntry} {ep : Nat}, s₁.heap.get? b = some o → o.data = .dict es ep → H b = none := fun {b o es ep} e d => only fun e' => by
      rw [e', ha] at e
      cases e
      exact nomatch (show Data.seq vs.toArray _ = Data.dict es ep from d)
    have nsK : ∀ {b : Addr} {m : Str → Option Value}, s₁.heap.Ns b m → (hidT s₁.heap H).Ns b m := fun {b m} ⟨o, es, ep, e, d, r⟩ => ⟨o, es, ep, hidT_get e (noA e d), d, r⟩
    have hKb : K.In (hidT s₁.heap H) := fun b o e => hidT_get (KX b o e) (by
      by_cases hb : b = a
      · cases q : H b with
        | none => rfl
        | some u =>
          rw [hb] at e q
          rw [hK (by rw [q]; exact fun z => nomatch z)] at e
          cases e
      · exact only hb)
    have hM : Mod K mg (hidT s₁.heap H) := ⟨hKb, nsK hns, ⟨mb,
        nsK hb, hbb⟩, let ⟨mc, h1, h2⟩ := hlim; ⟨mc, nsK h1, h2⟩⟩
    have e0 : Env0 P w K mg (hidT s₁.heap H) callerA [] s₁ H :=
      ⟨rfl, hM, fun b o e => of_hidT e, Nat.le_of_eq (hidT_size _ _), trivial, fun b hb => absurd hb List.not_mem_nil, hok, .of_eq hg⟩
    refine codeAny_mono (G _ hKb (nsK hns) callerA [] s₁ H [.ref a] [.ref a] (fun v _ => v = .bl true) (fun _ _ _ => False) rfl hr e0 (.cons rfl .nil) rfl
      ⟨W0 K H, [.frz (ns.map D.int)], fun d _ => d = .bl true, fun _ _ _ => False, rfl, rs0 K H, .cons (.frz hS (RDs.ints ns)) .nil, fun W' v d _ _ r e => ?_, fun _ _ _ _ _ _ _ _ _ _ z => z.elim, hF ns hl⟩) fun r s' h => ?_
    · subst e
      cases r
      rfl
    · cases r with
      | error e =>
        obtain ⟨_, _, _, _, _, _, _, _, _, _, _, _, z⟩ :=
            h
        exact z.elim
      | ok fl =>
        cases fl with
        | ret u =>
          obtain ⟨v, H', os, bare, un, hok', r', q⟩ :=
              h
          have q' : v = .bl true := q
          subst q'
          obtain rfl : u = Value.bool true :=
              r'
          refine ⟨rfl, OldK.of_keep fun b o e =>
              ?_, os, bare⟩
          cases q : H b with
          | none => exact un.keep b o e q (fun z => absurd z List.not_mem_nil) (fun z => absurd z List.not_mem_nil)
          | some u =>
            rcases hO b with z | ⟨ob,
                xs, z⟩
            · rw [q] at z; cases z
            · obtain ⟨e1, _⟩ := hok b _ z
              obtain ⟨e2, _⟩ := hok' b _ (un.frzs b ob _ z)
              rw [e] at e1; cases e1
              exact e2
        | _ => exact False.elim h
  cases hk : K.lookup a with
  | some o =>
    have e := KX a o hk
    rw [ha] at e
    cases e
    exact core (fun _ => none) (fun _ => .inl rfl) (.inr ⟨_, vs.toArray, _, hk, rfl, rfl, rfl, by rw [List.size_toArray, lenV]; exact big, by simpa using rv⟩) (fun b u z => nomatch (show (none : Option HO) = some u from z)) (fun b z => absurd rfl z) fun z => absurd rfl z
  | none =>
    have at_ : ∀ {b : Addr}, b = a → (if b = a then some (HO.frz { cls := .type "list", data := .seq vs.toArray } (.lst (ns.map V.int))) else none) = some (HO.frz { cls := .type "list", data := .seq vs.toArray } (.lst (ns.map V.int))) := fun h => if_pos h
    refine core (fun b => if b = a then some (.frz { cls := .type "list", data := .seq vs.toArray } (.lst (ns.map V.int))) else none) (fun b => ?_) (.inl ⟨_, if_pos rfl, no_live0⟩) (fun b u z => ?_) (fun b z => ?_) fun _ => hk
    · by_cases hb : b = a
      · exact .inr ⟨_,
            _, if_pos hb⟩
      · exact .inl (if_neg hb)
    · by_cases hb : b = a
      · cases (at_ hb).symm.trans z
        subst hb
        exact ⟨ha, by rw [List.length_map]; exact big, vs, _, rv, ha⟩
      · exact nomatch (if_neg hb).symm.trans z
    · by_cases hb : b = a
      · exact hb
      · exact absurd (if_neg hb) z
/-- the goal that k_head leaves -/
theorem walkG {l : PySem.W.OpenLaw} {k : Nat} {q : Program} {loose : List Str} {XP : (Str → Option Value) → Heap → Prop} {YP : World → Heap → Prop} {d : DefRec} {K : Params → PySem.W.Frag} {F : MF}
    (hn : l.most = some 63) (hdf : d.params.defaults = []) (hr : Room k callerA) (hY : ∀ (w : World) (h : Heap), YP w h → (K w.params).In h) (hF : LawIs F)
    (G : ∀ (w : World) (mg : Str → Option Value) (fa : Addr) (h : Heap), (K w.params).In h → h.Ns mainGlobals mg → mg d.name = some (.ref fa) → ∀ base : Heap, (K w.params).In base → base.Ns mainGlobals mg → FnG l.prog w (K w.params) mg base k fa 1 [] F) :
    PySem.W.WalkO q loose XP YP l.row.toRowW d [] (fun f vs =>
        PySem.call f vs) := by
  refine Att.attach_call hn hdf fun w s₀ s₁ mg mb fa o pm cd doc a vs ns T Y ho hd hcd hmg hobj hints hlen hg => ?_
  have KX := hY w _ Y
  exact law_callG KX T.T.g T.T.b T.T.builtins T.T.nolimit hg hobj hints hlen hr (G w mg fa _ KX T.T.g hmg) hF
end Mir
end

section
set_option Elab.async false
set_option linter.all false
set_option maxRecDepth 100000
set_option maxHeartbeats 2001000
/-! How mirrors are walked: loops by an invariant, comprehensions by their items. -/
namespace Mir
open PySem L2

theorem cut_self {α : Type} {Q : α → Store → Prop} {d : α} {S : Store} (h : Q d S) : cutQ Q d S := ⟨S, Sub.refl S, h⟩
theorem cut_of {α : Type} {Q : α → Store → Prop} {d : α} {S T : Store} (hs : Sub T S) (h : Q d T) : cutQ Q d S := ⟨T, hs, h⟩
theorem sub_put {S : Store} {l : Nat} {o : O} (h : S l = none) : Sub S (put S l o) := fun k u e => by
  have hk : k ≠ l := fun z => by rw [z, h] at e; cases e
  rw [put_ne hk]; exact e
theorem put_put {S : Store} {l : Nat} {o o' : O} : put (put S l o) l o' = put S l o' := by
  funext k
  by_cases h : k = l
  · subst h; rw [put_same, put_same]
  · rw [put_ne h, put_ne h, put_ne h]
theorem del_put {S : Store} {l : Nat} {o : O} (h : S l = none) : del (put S l o) l = S := by
  funext k
  by_cases hk : k = l
  · subst hk; rw [del_same, h]
  · rw [del_ne hk, put_ne hk]
theorem put_comm {S : Store} {l k : Nat} {o o' : O} (h : l ≠ k) : put (put S l o) k o' = put (put S k o') l o := by
  funext j
  by_cases h1 : j = k
  · subst h1; rw [put_same, put_ne (Ne.symm h), put_same]
  · by_cases h2 : j = l
    · subst h2; rw [put_ne h1, put_same, put_same]
    · rw [put_ne h1, put_ne h2, put_ne h2, put_ne h1]
theorem put_id {S : Store} {l : Nat} {o : O} (h : S l = some o) : put S l o = S := by
  funext k
  by_cases hk : k = l
  · subst hk; rw [put_same, h]
  · rw [put_ne hk]
/-- a loop by an invariant -/
theorem for_inv {g : MG} {body : MS} {Kp : Store → Prop} {M : ME} (I : Nat → Env → Store → Prop) : ∀ {ds : List D} {k : Nat} {ρ : Env} {S : Store}, I k ρ S → (∀ i ρ S, I i ρ S → Kp S) →
    (∀ (i : Nat) (d : D) (ρ : Env) (S : Store) (N : Env → Store → Prop), ds[i]? = some d → I (k + i) ρ S → (∀ ρ S, I (k + i + 1) ρ S → N ρ S) → g d ρ S fun ρ1 S1 => body { M with nx := N, ct := N, bk := M.nx } ρ1 S1) →
    (∀ ρ S, I (k + ds.length) ρ S → M.nx ρ S) → goFor g body Kp ds M ρ S
  | [], k, ρ, S, h0, hK, step, fin => ⟨hK _ _ _ h0, fin ρ S h0⟩
  | d :: ds, k, ρ, S, h0, hK, step, fin => ⟨hK _ _ _ h0, step 0 d ρ S (goFor g body Kp ds M) rfl h0 fun ρ1 S1 h1 => for_inv I (k := k + 1) h1 hK
      (fun i d' ρ S N hd hi hN => step (i + 1) d' ρ S N (by simpa using hd) ((by omega : k + 1 + i = k + (i + 1)) ▸ hi) fun ρ S h => hN ρ S ((by omega : k + (i + 1) + 1 = k + 1 + i + 1) ▸ h))
      fun ρ S h => fin ρ S ((by rw [List.length_cons]; omega : k + 1 + ds.length = k + (d :: ds).length) ▸ h)⟩
/-- a while by an invariant and a bound -/
theorem while_inv {t : Mr Bool} {b : MS} {M : ME} (I : Nat → Env → Store → Prop)
    (step : ∀ (n : Nat) (ρ : Env) (S : Store) (N : Env → Store → Prop), I n ρ S → (∀ n' ρ S, n' < n → I n' ρ S → N ρ S) → t ρ S (fun c S1 => if c = true then b { M with nx := N, ct := N, bk := M.nx } ρ S1 else M.nx ρ S1) (M.x ρ)) :
    ∀ {n : Nat} {ρ : Env} {S : Store}, I n ρ S → mWhile t b M ρ S := by
  have key : ∀ (n : Nat) (m : Nat) (ρ : Env) (S : Store), n < m → I n ρ S → goWh t b m M ρ S := by
    intro n
    induction n using
        Nat.strongRecOn with
    | _ n ih =>
      intro m ρ S hm h
      cases m with
      | zero => omega
      | succ m => exact step n ρ S (goWh t b m M) h fun n' ρ' S' hn h' => ih n' hn m ρ' S' (by omega) h'
  exact fun {n ρ S} h => ⟨n + 1, key n (n + 1) ρ S (Nat.lt_succ_self n) h⟩
/-- a comprehension without a filter, item by item -/
theorem lc_go {t : Tg} {e : Mr D} {l : Nat} {Kp : Store → Prop} {ρ : Env} {S : Store} {Q : Store → Prop} (R : Nat → D → Prop) (hK : ∀ acc, Kp (put S l (.lst acc))) : ∀ {ds : List D} {acc : List D}, small (acc.length + ds.length) →
    (∀ (i : Nat) (d : D), ds[i]? = some d → ∀ (acc' : List D) (Q' : D → Store → Prop) (X : XC), (∀ y, R (acc.length + i) y → Q' y (put S l (.lst acc'))) → match t.b d ρ with
      | some ρ1 => e ρ1 (put S l (.lst acc')) Q' X
      | none => False) →
    (∀ ys : List D, ys.length = ds.length → (∀ i y, ys[i]? = some y → R (acc.length + i) y) → Q (put S l (.lst (acc ++ ys)))) → goLc t mYes e l Kp ρ ds (put S l (.lst acc)) Q
  | [], acc, hs, step, fin => ⟨hK acc, by
      have z := fin [] rfl (fun i y h => by simp at h)
      rw [List.append_nil] at z
      exact z⟩
  | d :: ds, acc, hs, step, fin => ⟨hK acc, by
      have z := step 0 d rfl acc (fun y S2 => match S2 l with
        | some (.lst acc) => small (acc.length + 1) ∧ goLc t mYes e l Kp ρ ds (put S2 l (.lst (acc ++ [y]))) Q
        | _ => False) (fun _ _ _ => False) fun y hy => by
          rw [put_same]
          refine ⟨by unfold small at hs ⊢; rw [List.length_cons] at hs; omega, ?_⟩
          rw [put_put]
          refine lc_go R hK (by unfold small at hs ⊢; rw [List.length_append, List.length_singleton]; rw [List.length_cons] at hs; omega) (fun i d' hd acc' Q' X hq => step (i + 1) d' (by simpa using hd) acc' Q' X fun y' hy' => hq y' (by
            rw [List.length_append,
                List.length_singleton]
            have e : acc.length + (i + 1) = acc.length + 1 + i := by omega
            rw [← e]; exact hy')) fun ys hl hr => ?_
          rw [List.append_assoc]
          refine fin (y :: ys) (by simp [hl]) fun i y' hi => ?_
          cases i with
          | zero =>
            simp at hi
            subst hi
            exact hy
          | succ i =>
            have q := hr i y' (by simpa using hi)
            rw [List.length_append, List.length_singleton] at q
            have e : acc.length + (i + 1) = acc.length + 1 + i := by omega
            rw [e]; exact q
      split
      · rename_i e1
        rw [e1] at z
        exact z
      · rename_i ρ1 e1
        rw [e1] at z
        exact z⟩
theorem lc_all {it : Mr Pk} {t : Tg} {vs : List Nat} {e : Mr D} {ρ : Env} {S : Store} {Q : D → Store → Prop} {X : XC} (ds : List D) (Kp : Store → Prop) (R : Nat → D → Prop) (hi : ∀ Q' : Pk → Store → Prop, Q' (ds, Kp) S → it ρ S Q' X) (hs : small ds.length)
    (hK : ∀ l, S l = none → ∀ acc, Kp (put S l (.lst acc)))
    (step : ∀ (l : Nat), S l = none → ∀ (i : Nat) (d : D), ds[i]? = some d → ∀ (acc' : List D) (Q' : D → Store → Prop) (X : XC), (∀ y, R i y → Q' y (put S l (.lst acc'))) → match t.b d (wipM ρ vs) with
      | some ρ1 => e ρ1 (put S l (.lst acc')) Q' X
      | none => False)
    (fin : ∀ ys : List D, ys.length = ds.length → (∀ i y, ys[i]? = some y → R i y) → Q (.lst ys) S) : mLc it t vs mYes e ρ S Q X := by
  refine hi _ fun l hl => lc_go R (hK l hl) (by simpa using hs) (fun i d hd acc' Q' X' hq => step l hl i d hd acc' Q' X' fun y hy => hq y (by simpa using hy)) fun ys hlen hr => ?_
  rw [put_same]
  dsimp only
  rw [del_put hl, List.nil_append]
  exact fin ys hlen fun i y h => by simpa using hr i y h
end Mir
end

section
set_option Elab.async false
set_option linter.all false
set_option maxRecDepth 100000
set_option maxHeartbeats 2001000
/-! Steps of mirrors by simp; yards and arrangements as data. -/
namespace Mir
open PySem L2
/-- a place of a list, by a natural number -/
theorem atI_nat {α : Type} {xs : List α} {i : Nat} {d : α} (h : xs[i]? = some d) : atI xs (i : Int) = some d := by
  have hl := (List.getElem?_eq_some_iff.mp h).1
  unfold atI
  have e : ixN xs.length (i : Int) = some i := by
    unfold ixN
    first
      | (rw [if_neg (by omega), if_pos (by omega)]; simp)
      | (simp; omega)
  rw [e]
  exact h
theorem atI_0 {α : Type} {a : α} {xs : List α} : atI (a :: xs) 0 = some a := atI_nat (i := 0) rfl
theorem atI_1 {α : Type} {a b : α} {xs : List α} : atI (a :: b :: xs) 1 = some b := atI_nat (i := 1) rfl
theorem atI_2 {α : Type} {a b c : α} {xs : List α} : atI (a :: b :: c :: xs) 2 = some c := atI_nat (i := 2) rfl
theorem atI_3 {α : Type} {a b c d : α} {xs : List α} : atI (a :: b :: c :: d :: xs) 3 = some d := atI_nat (i := 3) rfl
/-- a loop by an invariant, from its first turn on -/
theorem for_inv0 {g : MG} {body : MS} {Kp : Store → Prop} {M : ME} {ds : List D} {ρ : Env} {S : Store} (I : Nat → Env → Store → Prop) (h0 : I 0 ρ S) (hK : ∀ i ρ S, I i ρ S → Kp S)
    (step : ∀ (i : Nat) (d : D) (ρ : Env) (S : Store) (N : Env → Store → Prop), ds[i]? = some d → I i ρ S → (∀ ρ S, I (i + 1) ρ S → N ρ S) → g d ρ S fun ρ1 S1 => body { M with nx := N, ct := N, bk := M.nx } ρ1 S1)
    (fin : ∀ ρ S, I ds.length ρ S → M.nx ρ S) : goFor g body Kp ds M ρ S :=
  for_inv I (k := 0) h0 hK (fun i d ρ S N hd hi hN => step i d ρ S N hd ((Nat.zero_add i) ▸ hi) fun ρ S h => hN ρ S ((Nat.zero_add i).symm ▸ h)) fun ρ S h => fin ρ S (by rw [Nat.zero_add] at h; exact h)


end Mir
end

open PySem L2 Mir
local macro_rules
  | `(tactic| and_intros) => `(tactic| try simp only [mFn, mRet, mRetN, mSeq, mSet, mIte, mNext, mVar, mC, mOp, mAndV, mOrV, mNotV, mIsi, mChain, mApp, mCons, mNil, mTup, mLst, mUn, mT, mAnd, mOr, mNot, mIf, mCall, mPar, mPar3, mAsg, gQ, gN, gCo, gNi, mFor, mWk, mEnum, mListRg, mSlice, mNoP, mP, mDrop, mThru, mYes, goFor, ME.x, startD, List.map_cons, List.map_nil, List.replicate_zero, List.replicate_succ, List.append_nil, List.cons_append, List.nil_append, List.getElem?_cons_zero, List.getElem?_cons_succ, List.getElem?_nil, List.set_cons_zero, List.set_cons_succ, fEq, fNe, fSub, fLt, fGt, fLe, fGe, fDiv, fMod, fPow, fEqB, fLen, fLeM, fI0, fInt, fNeg, fIx, asQ, asL, tyD, Ty.isi, walkD, List.length_cons, List.length_nil, if_true, if_false, Bool.false_eq_true, Bool.not_true, Bool.not_false, Bool.false_xor, Bool.true_xor, true_and, and_true, decide_true, decide_false, reduceCtorEq, wipM, Tg.b, Tg.bs, Option.bind_some, atI_0, atI_1, atI_2, atI_3])

open PySem L2 Mir
local macro_rules
  | `(tactic| subst_eqs) => `(tactic| try simp only [↓mFn, ↓mRet, ↓mRetN, ↓mSeq, ↓mSet, ↓mIte, ↓mNext, ↓mVar, ↓mC, ↓mOp, ↓mAndV, ↓mOrV, ↓mNotV, ↓mIsi, ↓mChain, ↓mApp, ↓mCons, ↓mNil, ↓mTup, ↓mLst, ↓mUn, ↓mT, ↓mAnd, ↓mOr, ↓mNot, ↓mIf, ↓mCall, ↓mPar, ↓mPar3, ↓mAsg, ↓gQ, ↓gN, ↓gCo, ↓gNi, ↓mFor, ↓mWk, ↓mEnum, ↓mListRg, ↓mSlice, ↓mNoP, ↓mP, ↓mDrop, ↓mThru, ↓mYes, ↓startD, ↓fEq, ↓fNe, ↓fSub, ↓fLt, ↓fGt, ↓fLe, ↓fGe, ↓fDiv, ↓fMod, ↓fPow, ↓fEqB, ↓fLen, ↓fLeM, ↓fI0, ↓fInt, ↓fNeg, ↓fIx, ↓asQ, ↓asL, ↓tyD, ↓walkD, ↓wipM, ↓mRg1, ↓mMeth, ↓mListN, ↓mNew, ↓mFrz, ↓mDPut, ↓fTwo, ↓fAdd, ↓fMul, ↓gIx, goFor, ME.x, List.map_cons, List.map_nil, List.replicate_zero, List.replicate_succ, List.append_nil, List.cons_append, List.nil_append, List.getElem?_cons_zero, List.getElem?_cons_succ, List.getElem?_nil, List.set_cons_zero, List.set_cons_succ, Ty.isi, List.length_cons, List.length_nil, if_true, if_false, Bool.false_eq_true, Bool.not_true, Bool.not_false, Bool.false_xor, Bool.true_xor, true_and, and_true, decide_true, decide_false, reduceCtorEq, Tg.b, Tg.bs, Option.bind_some, atI_0, atI_1, atI_2, atI_3])

section
set_option Elab.async false
set_option linter.all false
set_option maxRecDepth 100000
set_option maxHeartbeats 401000
/-! Comprehensions whose items change the store. -/
namespace Mir
open PySem L2
theorem lc_goI {t : Tg} {e : Mr D} {l : Nat} {Kp : Store → Prop} {ρ : Env} {Q : Store → Prop} (I : List D → Store → Prop) (hK : ∀ acc S, I acc S → Kp S) (hl : ∀ acc S, I acc S → S l = some (.lst acc)) : ∀ {ds : List D} {acc : List D} {S : Store}, small (acc.length + ds.length) → I acc S →
    (∀ (i : Nat) (d : D), ds[i]? = some d → ∀ (acc' : List D) (S' : Store) (Q' : D → Store → Prop) (X : XC), acc'.length = acc.length + i → I acc' S' → (∀ y S2, S2 l = some (.lst acc') → I (acc' ++ [y]) (put S2 l (.lst (acc' ++ [y]))) → Q' y S2) → match t.b d ρ with
      | some ρ1 => e ρ1 S' Q' X
      | none => False) →
    (∀ acc' S', acc'.length = acc.length + ds.length → I acc' S' → Q S') → goLc t mYes e l Kp ρ ds S Q
  | [], acc, S, hs, h0, step, fin => ⟨hK _ _ h0, fin acc S rfl h0⟩
  | d :: ds, acc, S, hs, h0, step, fin => ⟨hK _ _ h0, by
      have z := step 0 d rfl acc S (fun y S2 => match S2 l with
        | some (.lst acc) => small (acc.length + 1) ∧ goLc t mYes e l Kp ρ ds (put S2 l (.lst (acc ++ [y]))) Q
        | _ => False) (fun _ _ _ => False) rfl h0 fun y S2 hy hI => by
          rw [hy]
          refine ⟨by unfold small at hs ⊢; rw [List.length_cons] at hs; omega, ?_⟩
          refine lc_goI I hK hl (by unfold small at hs ⊢; rw [List.length_append, List.length_singleton]; rw [List.length_cons] at hs; omega) hI (fun i d' hd acc' S' Q' X hq hI' hn => step (i + 1) d' (by simpa using hd) acc' S' Q' X (by
            rw [hq, List.length_append,
                List.length_singleton]
            omega) hI' hn) fun acc' S' hlen hI' => fin acc' S' (by
            rw [hlen, List.length_append, List.length_singleton, List.length_cons]
            omega) hI'
      split
      · rename_i e1
        rw [e1] at z
        exact z
      · rename_i ρ1 e1
        rw [e1] at z
        exact z⟩
theorem lc_inv {it : Mr Pk} {t : Tg} {vs : List Nat} {e : Mr D} {ρ : Env} {S : Store} {Q : D → Store → Prop} {X : XC} (ds : List D) (Kp : Store → Prop) (I : Nat → List D → Store → Prop) (hi : ∀ Q' : Pk → Store → Prop, Q' (ds, Kp) S → it ρ S Q' X) (hs : small ds.length)
    (hK : ∀ l acc S', I l acc S' → Kp S') (hl : ∀ l acc S', I l acc S' → S' l = some (.lst acc)) (h0 : ∀ l, S l = none → I l [] (put S l (.lst [])))
    (step : ∀ (l : Nat), S l = none → ∀ (i : Nat) (d : D), ds[i]? = some d → ∀ (acc' : List D) (S' : Store) (Q' : D → Store → Prop) (X : XC), acc'.length = i → I l acc' S' → (∀ y S2, S2 l = some (.lst acc') → I l (acc' ++ [y]) (put S2 l (.lst (acc' ++ [y]))) → Q' y S2) → match t.b d (wipM ρ vs) with
      | some ρ1 => e ρ1 S' Q' X
      | none => False)
    (fin : ∀ (l : Nat) (acc : List D) (S' : Store), S l = none → acc.length = ds.length → I l acc S' → Q (.lst acc) (del S' l)) : mLc it t vs mYes e ρ S Q X := by
  refine hi _ fun l hln => lc_goI (I l) (hK l) (hl l) (by simpa using hs) (h0 l hln) (fun i d hd acc' S' Q' X' hq hI hn => step l hln i d hd acc' S' Q' X' (by simpa using hq) hI hn) fun acc' S' hlen hI => ?_
  rw [hl l _ _ hI]
  exact fin l acc' S' hln (by simpa using hlen) hI
end Mir
end

section
set_option Elab.async false
set_option linter.all false
set_option maxRecDepth 100000
set_option maxHeartbeats 401000
/-! Mirrors, one step at a time: each rule takes the outermost word away. -/
namespace Mir
open PySem L2
section
variable {ρ ρ' : Mir.Env} {S S' : Store} {Q : D → Store → Prop} {QL : List D → Store → Prop} {QB : Bool → Store → Prop} {X : XC} {M : ME}
theorem var_at {i : Nat} {d : D} (e : ρ[i]? = some (some d)) (h : Q d S) : mVar i ρ S Q X := by
  unfold mVar
  rw [e]
  exact h
theorem c_at {d : D} (h : Q d S) : mC d ρ S Q X := h
theorem cons_at {m : Mr D} {ms : Mr (List D)} (h : m ρ S (fun d S1 => ms ρ S1 (fun ds S2 => QL (d :: ds) S2) X) X) : mCons m ms ρ S QL X := h
theorem nil_at (h : QL [] S) : mNil ρ S QL X := h
theorem op_at {f : F2} {ma mb : Mr D} (h : ma ρ S (fun x S1 => mb ρ S1 (fun y S2 => f x y S2 fun d => Q d S2) X) X) : mOp f ma mb ρ S Q X := h
theorem app_at {f : FA} {ms : Mr (List D)} (h : ms ρ S (fun ds S1 => f ds S1 fun d => Q d S1) X) : mApp f ms ρ S Q X := h
theorem call_at {n : Nat} {F : MF} {ms : Mr (List D)} (h : ms ρ S (fun ds S1 => ds.length = n ∧ F ds S1 Q X) X) : mCall n F ms ρ S Q X := h
theorem tup_at {ms : Mr (List D)} (h : ms ρ S (fun ds S1 => small ds.length ∧ Q (.tup ds) S1) X) : mTup ms ρ S Q X := h
theorem lst_at {ms : Mr (List D)} (h : ms ρ S (fun ds S1 => small ds.length ∧ Q (.lst ds) S1) X) : mLst ms ρ S Q X := h
theorem new_at {ms : Mr (List D)} (h : ms ρ S (fun ds S1 => small ds.length ∧ ∀ l, S1 l = none → Q (.ref l) (put S1 l (.lst ds))) X) : mNew ms ρ S Q X := h
/-- the truth of what stands there -/
def isB (k : Bool → Store → Prop) : D → Store → Prop := fun d S => match d with
  | .bl b => k b S
  | _ => False
theorem t_at {m : Mr D} (h : m ρ S (isB QB) X) : mT m ρ S QB X := h
theorem not_at {t : Mr Bool} (h : t ρ S (fun b S1 => QB (!b) S1) X) : mNot t ρ S QB X := h
theorem or_at {t u : Mr Bool} (h : t ρ S (fun b S1 => if b = true then QB true S1 else u ρ S1 QB X) X) : mOr t u ρ S QB X := h
theorem and_at {t u : Mr Bool} (h : t ρ S (fun b S1 => if b = true then u ρ S1 QB X else QB false S1) X) : mAnd t u ρ S QB X := h
theorem ite_at {t : Mr Bool} {m u : MS} (h : t ρ S (fun b S1 => if b = true then m M ρ S1 else u M ρ S1) (M.x ρ)) : mIte t m u M ρ S := h
theorem ret_at {me : Mr D} (h : me ρ S M.rt (M.x ρ)) : mRet me M ρ S := h
theorem set_at {i : Nat} {me : Mr D} (h : me ρ S (fun d S1 => M.nx (ρ.set i (some d)) S1) (M.x ρ)) : mSet i me M ρ S := h
theorem asg_at {me : Mr D} {g : MG} (h : me ρ S (fun d S1 => g d ρ S1 M.nx) (M.x ρ)) : mAsg me g M ρ S := h
theorem drop_at {me : Mr D} (h : me ρ S (fun _ S1 => M.nx ρ S1) (M.x ρ)) : mDrop me M ρ S := h
theorem next_at (h : M.nx ρ S) : mNext M ρ S := h
def is2 (k : D → D → Store → Prop) : List D → Store → Prop := fun ds S => match ds with
  | [d, d'] => k d d' S
  | _ => False
theorem par_at {i j : Nat} {ms : Mr (List D)} (h : ms ρ S (is2 fun d d' S1 => M.nx ((ρ.set i (some d)).set j (some d')) S1) (M.x ρ)) : mPar i j ms M ρ S := h
theorem seq_at {a b : MS} (h : a { M with nx := b M } ρ S) : mSeq a b M ρ S := h
/-- one statement, then the rest -/
theorem seq_do {a b : MS} (h : ∀ M' : ME, M'.nx ρ' S' → a M' ρ S) (k : b M ρ' S') : mSeq a b M ρ S := h { M with nx := b M } k
theorem small_at {n : Nat} {P : Prop} (h1 : n ≤ 100000) (h : P) : small n ∧ P := ⟨h1, h⟩
theorem len_at {n m : Nat} {P : Prop} (h1 : n = m) (h : P) : n = m ∧ P := ⟨h1, h⟩
theorem isB_at {k : Bool → Store → Prop} {b : Bool} (h : k b S) : isB k (.bl b) S := h
theorem if_t {P R : Prop} (h : P) : if (true = true) then P else R := h
theorem if_f {P R : Prop} (h : R) : if (false = true) then P else R := h
end

end Mir
end

open PySem L2 Mir
local macro_rules
  | `(tactic| bv_omega) => `(tactic| repeat (first
  | with_reducible refine op_at ?_ | with_reducible refine cons_at ?_ | with_reducible refine nil_at ?_ | with_reducible refine var_at rfl ?_ | with_reducible refine c_at ?_ | with_reducible refine app_at ?_ | with_reducible refine call_at ?_
  | with_reducible refine tup_at ?_ | with_reducible refine lst_at ?_ | with_reducible refine t_at ?_ | with_reducible refine not_at ?_ | with_reducible refine or_at ?_ | with_reducible refine and_at ?_ | with_reducible refine ite_at ?_ | with_reducible refine ret_at ?_
  | with_reducible refine set_at ?_ | with_reducible refine asg_at ?_ | with_reducible refine drop_at ?_ | with_reducible refine next_at ?_ | with_reducible refine par_at ?_ | with_reducible refine isB_at ?_ | with_reducible refine if_t ?_ | with_reducible refine if_f ?_
  | with_reducible refine small_at (by simp only [List.length_cons, List.length_nil]; decide) ?_ | with_reducible refine len_at rfl ?_))

section
set_option Elab.async false
set_option linter.all false
set_option maxRecDepth 100000
set_option maxHeartbeats 1001000
/-! try: .. except (A, B) as e: m = e, where m keeps the exception beyond its suite. -/
namespace Mir
open L2 PyProof.Rows PySem PySem.Spec
section
variable {X : Cx} {pins : List (Addr ×
    Obj)} {σ : L2.St} {H : Hp} {s : Shared}
theorem unsuite_pin {a : Addr} {q : Addr × Obj} {pn' : List (Addr × Obj)} (I : Inv (X.suite a (q :: (X.pn ++ pins))) pn' σ H s) (ok : X.Ok) : Inv X (q :: pins) σ H s :=
  ⟨ok, I.os, I.bare, I.base, I.loc, I.cell, I.free, I.freeC, fun p hp => I.pin p (List.mem_append_left _ (by
    rcases List.mem_append.mp
        hp with h | h
    · exact List.mem_cons_of_mem _ (List.mem_append_left _ h)
    · rcases List.mem_cons.mp
          h with e | h
      · rw [e]; exact List.mem_cons_self
      · exact List.mem_cons_of_mem _ (List.mem_append_right _ h))), I.hok, I.len⟩
theorem excAt_ok {P : Program} {w : World} {H : Hp} {h : Heap} {a C dd : Addr} {oe : Obj} {vs : Array Value} (e : h.get? a = some oe) (z : Zc (.ref C) (some dd) oe) (d : oe.data = .fields vs) : ObjOk P w H h a (ExcAt C dd a) :=
  ⟨⟨oe, vs, e, z, d⟩, ⟨oe, e⟩, fun _ _ ⟨o, v, q, r⟩ k => ⟨o, v, k o q, r⟩⟩
/-- what was pinned is told from now on as an exception -/
theorem Inv.track {a C dd : Addr} {oe : Obj} {vs : Array Value} (I : Inv X ((a, oe) :: pins) σ H s) (hd : oe.data = .fields vs) (z : Zc (.ref C) (some dd) oe) (h0 : X.s_0.heap.get? a = none) (hp : ∀ p ∈ X.pn ++ pins, p.1 ≠ a) : Inv X pins σ (upd H a (ExcAt C dd a)) s := by
  obtain ⟨ha, na, nL, nF, nC⟩ := I.pin (a, oe) (List.mem_append_right _ List.mem_cons_self)
  have ha : s.heap.get? a = some oe := ha
  have na : H a = none := na
  refine ⟨I.ok, I.os, I.bare, ⟨I.base.keep, I.base.slot, fun b o e n hx => ?_, I.base.there, fun b xs q => ?_, fun b o u q => ?_, fun b ps q => ?_⟩, I.loc, I.cell, ?_, fun x c e => ?_, fun p hp' => ?_, HOk.laidN I.hok (fun _ _ e => e) na (excAt_ok ha z hd), I.len⟩
  · rw [upd_ne fun e' => by rw [e', h0] at e; cases e]
    exact I.base.free b o e n hx
  · have q := I.base.tups b xs q
    rw [upd_ne (ne_of_none q na)]
    exact q
  · have q := I.base.frzs b o u q
    rw [upd_ne (ne_of_none q na)]
    exact q
  · obtain ⟨more, q⟩ := I.base.tbls b ps q
    exact ⟨more, by rw [upd_ne (ne_of_none q na)]; exact q⟩
  · rw [upd_ne fun e => nL e.symm]
    exact I.free
  · have hc := I.freeC x c e
    rw [upd_ne fun e' => ?_]
    · exact hc
    · obtain ⟨v, o, ho, hd'⟩ := I.cell x c e
      rw [e', ha] at ho
      cases ho
      rw [hd] at hd'
      cases hd'
  · obtain ⟨p1, p2, p3, p4, p5⟩ := I.pin p (by
      rcases List.mem_append.mp hp' with h | h
      · exact List.mem_append_left _ h
      · exact List.mem_append_right _ (List.mem_cons_of_mem _ h))
    exact ⟨p1, by rw [upd_ne (hp p hp')]; exact p2, p3, p4, p5⟩
end
theorem flying_push {B h : Heap} {l : List PySem.Env} {a : Addr} {Z : Obj → Prop} {o : Obj} (f : HandSPX.FlyingZ B l a Z h) : HandSPX.FlyingZ B l a Z (h.push o) := by
  obtain ⟨k1, k2, k3, oe, vs, T, oT, ts, e1, e2, e3, e4, e5, e6, e7, e8, e9⟩ := f
  exact ⟨fun b u e => Heap.get?_push_of_some _ (k1 b u e), k2, Heap.FunFrames.of_keeps (fun b u e _ => ⟨u, Heap.get?_push_of_some _ e, rfl⟩) k3, oe, vs, T, oT, ts, Heap.get?_push_of_some _ e1, e2, e3, e4, e5, e6, Heap.get?_push_of_some _ e7, e8, e9⟩
/-- what the clause wishes of an exception of the body: slot i is the clause's name, slot j keeps -/
def wKeep (K : PySem.W.Frag) (c1 c2 : Value) (i j n : Nat) (Wout : WX) (D : Ends) : WX := fun cls d σ H =>
  ∃ b, PySem.W.exmAny K cls [c1, c2] = some b ∧ (b = true → ∃ C dd, cls = .ref C ∧ d = some dd ∧ ∀ a, H a = none → σ.length = n → D.nx (((σ.set i (some (.ref a))).set j (some (.ref a))).set i none) (upd H a (ExcAt C dd a))) ∧ (b = false → Wout cls d σ H)
section
variable {X : Cx} {x1 x2 n m : Str} {c1 c2 : Value} {i j kt : Nat} {body : List Stmt} {p1 p2 tp q1 q2 q3 pos pos' : Pos} {tb : WX → TS} {Wout : WX}
theorem ps_try_keep (hs : X.stack = X.env :: X.outer) (hf : X.env.frame = some X.env.locals) (hex : X.ex = []) (hN : X.N.Nodup) (hi : X.N[i]? = some n) (hln : X.env.kindOf n = some .local) (hj : X.N[j]? = some m) (hlm : L2.Loc X.env.scope m) (hfm : X.fn m = true ∨ X.env.scope.names.lookup m = some .local) (hc1 : Names X x1 c1) (hc2 : Names X x2 c2) (tk : Takes X Wout)
    (hb : ∀ (W : WX) (pn : List (Addr × Obj)) (xe : Value → Shared → Prop), Takes (X.tr pn xe)
        W → PassesOwn (model X.prog X.w) X.A X.env xe → PSs (X.tr pn xe) body (tb W))
    (hdb : (n == ("__debug__" : Str)) = false) (hdc : (n == ("__classdict__" : Str)) = false) (hsw : swapsWith (.Name n q2) (some (.Name m q1)) q3.line X.env = pure false) :
    PS X (.Try body [.ExceptHandler (some (.Tuple [.Name x1 p1, .Name x2 p2] kt tp)) (some n) [.Assign [.Name m q1] (.Name n q2) q3] pos'] [] [] pos) (fun D σ H => tb (wKeep X.K c1 c2 i j X.N.length Wout D) D σ H) := by
  refine ⟨fun pins s σ H D I h =>
      ?_⟩
  have ok := I.ok
  have hfr : X.A.frames = some (X.env :: X.outer) :=
      by rw [ok.frames, hs]
  have hloc : Loc X.env.scope n :=
      .inl hln
  refine wpAny_Try_except ?_
  refine wpAny_mono ((hb (wKeep X.K c1 c2 i j X.N.length Wout D) (X.pn ++ pins) (fun e s₁ => wpAny (model X.prog X.w) X.A (noteFrame e X.env) (fun _ s₂ => wpAny (model X.prog X.w) X.A (setFlight e none) (fun _ s₃ =>
    wpAny (model X.prog X.w) X.A (handleBy e X.env [.ExceptHandler (some (.Tuple [.Name x1 p1, .Name x2 p2] kt tp)) (some n) [.Assign [.Name m q1] (.Name n q2) q3] pos']) (SP X pins D) X.xe s₃) X.xe s₂) X.xe s₁) (fun u s' xx => ?_) PassesOwn.looking).run [] s σ H D (I.toTry _) h) (fun f s1 hsp => ?_) (fun e s1 he => he)
  · obtain ⟨a, B, sI, pins', σ', H', cls, d, rfl, J', nb, up, sky, na, os, ag, b, hb1, hyes, hno⟩ := xx
    have J : Inv X pins σ' H' sI :=
        J'.ofTry ok
    have sky' : Sky B (X.env :: X.outer) a (Zc cls d)
        X.env.locals s'.heap := by rw [← hs]; exact sky
    show wpAny (model X.prog X.w)
        X.A (noteFrame (.ref a) X.env) _ _ _
    refine Sky.land Zc.steady hfr hf sky' fun h3 fl3 up3 =>
        ?_
    have J3 : Inv X pins σ' H' { s' with heap :=
        h3 } := J.landed nb fl3.1 (up.trans up3) os ag
    obtain ⟨oe3, vs3, he3, hz3, hd3⟩ :=
        fl3.there
    have notFr : ∀ {h : Heap} {o : Obj} {vs : Array Value}, h.FunFrames B (X.env :: X.outer)
        → h.get? a = some o → o.data = .fields vs → a ∉ frs (X.env :: X.outer) := fun {h o vs} ff e dd hm => by
      obtain ⟨_, o', e', hnf⟩ :=
          ff.mem hm
      rw [e] at e'; cases e'
      exact hnf _ dd
    have nfr :=
        notFr fl3.2.2.1 he3 hd3
    have nL : a ≠ X.env.locals := fun z =>
        nfr (List.mem_filterMap.mpr ⟨X.env, List.mem_cons_self, by rw [hf, z]⟩)
    have nF : a ∉ X.fs :=
        fun hm => by
      obtain ⟨e, he, q⟩ :=
          List.mem_filterMap.mp hm
      exact nfr (List.mem_filterMap.mpr ⟨e,
          List.mem_cons_of_mem _ he, q⟩)
    -- the exception is younger than the state in which the body began to raise
    have nI : ∀ o, sI.heap.get? a ≠ some o := fun o e => by
      have z := nb a o e (by rw [hs]; exact nfr)
      rw [fl3.2.1] at z
      cases z
    have n0 : X.s_0.heap.get? a = none :=
        by
      cases e :
          X.s_0.heap.get? a with
      | none => rfl
      | some o =>
        obtain ⟨o', e'⟩ := J.base.there a o e (by rw [hex]; exact List.not_mem_nil)
        exact absurd e' (nI o')
    have npin : ∀ p ∈ X.pn ++ pins, p.1 ≠ a := fun p hp z => by
      have q := (J.pin p hp).1
      rw [z] at q
      exact nI _ q
    have S3 :=
        J3.suite he3 hd3 na nL nF
    refine wpAny_handleBy_cons (codeAny_handlers_test ?_)
      (by intro q; cases q)
    have test : ∀ {x : Str} {c : Value} {np : Pos} {Q : Value → Shared → Prop} {E : Value → Shared → Prop}, Names X x c → Q c { s' with heap := h3 } → wpAny (model X.prog X.w) (X.A.mark (some (.ref a))) (eval (.Name x np) X.env) Q E { s' with heap := h3 } := fun {x c np Q E} hc q => by
      obtain ⟨hg, hdbg, hm | ⟨hm, hv, hnn⟩⟩ :=
          hc
      · exact ld_glob (X :=
            X.suite a ((a, oe3) :: (X.pn ++ pins))) S3 hg hm q hdbg
      · exact ld_blt (X := X.suite a ((a, oe3)
            :: (X.pn ++ pins))) S3 hg hm hv q hnn hdbg
    refine wpAny_Tuple ?_
    refine wpAny_items_cons (test hc1 ?_)
    refine wpAny_items_cons (test hc2 ?_)
    refine wpAny_items_nil ⟨show 2 ≤ sizeLine by decide, ?_⟩
    have kp : ∀ q o, h3.get? q = some o → (h3.push { cls := .type "tuple", data := .seq [c1, c2].toArray }).get? q = some o := fun _ _ z => Heap.get?_push_of_some _ z
    have LT : PySem.W.Looks (model X.prog X.w) (h3.push { cls := .type "tuple", data := .seq [c1, c2].toArray }) (typeOf (.ref a)) cls := fun A Q E s k q => wpAny_typeOf_ref (k _ _ (kp _ _ he3)) (by rw [hz3.1]; exact q)
    have LM := PySem.W.exm_tup2 (M := model X.prog X.w) (J3.kIn.keeps kp) LT (Heap.get?_push_size h3 rfl) hb1
    refine LM.here ?_
    have fl3' := flying_push (o := { cls := .type "tuple", data := .seq [c1, c2].toArray }) fl3
    have up3' : h3.UpToSlots (h3.push { cls := .type "tuple", data := .seq [c1, c2].toArray }) := fun b o e _ => ⟨o.slots, kp b o e⟩
    cases b with
    | true =>
      obtain ⟨C, dd, e1, e2, hy2⟩ := hyes rfl
      subst e1 e2
      refine codeAny_handlers_suite_as
          ?_
      refine HandSPX.lands_againZ fl3' fun h4 fl4 up4 => ?_
      have J4 : Inv X pins σ' H' { s' with heap := h4 } := J.landed nb fl4.1 (((up.trans up3).trans up3').trans up4) os ag
      obtain ⟨oe4, vs4, he4, hz4, hd4⟩ :=
          fl4.there
      have S4 :=
          J4.suite he4 hd4 na nL nF
      refine store_ok (X := X.suite a ((a, oe4) :: (X.pn ++ pins))) (v :=
          .ref a) S4 hN hi hloc rfl (fun s5 S5 => ?_) (.inr hln)
      have hv : PE (X.suite a ((a, oe4) :: (X.pn ++ pins))) (.Name n q2) (tVar i) := pe_var hi (.inl hln) hdb hdc
      have hst := ps_set (X := X.suite a ((a, oe4) :: (X.pn ++ pins))) (pos := q3) (pos' := q1) hN hj hlm hv hsw hfm
      have hlen : i < σ'.length := by
        rw [S4.len]
        exact (List.getElem?_eq_some_iff.mp hi).1
      refine wpAny_mono ((pss_one hst).run [] s5 _ H' { nx := fun σ6 H6 => σ6 = ((σ'.set i (some (.ref a))).set j (some (.ref a))) ∧ H6 = H', rt := fun _ _ => False, bk := fun _ _ => False, ct := fun _ _ => False } S5 ⟨.ref a, List.getElem?_set_self hlen, rfl, rfl⟩) (fun f s6 hsp => ?_) (fun _ _ z => False.elim z)
      cases f with
      | next =>
        obtain ⟨σ6, H6, S6, rfl, rfl⟩ := hsp
        refine gone_ok (unsuite_pin S6 ok) hN hi hln fun s7 J7 => ?_
        exact ⟨_, _, Inv.track J7 hd4 hz4 n0 npin, hy2 a na J.len⟩
      | brk =>
        obtain ⟨σ6, H6, S6, q6⟩ :=
            hsp
        exact q6.elim
      | cont =>
        obtain ⟨σ6, H6, S6, q6⟩ :=
            hsp
        exact q6.elim
      | ret u =>
        obtain ⟨v6, σ6, H6, S6, r6, q6⟩ :=
            hsp
        exact q6.elim
    | false =>
      show wpAny _ X.A (handleBy (.ref a)
          X.env []) _ _ _
      refine wpAny_handleBy_nil ?_
      obtain ⟨k1, k2, k3, oe, vs, T, oT, ts', he, hz, hd, h1, hr⟩ := id fl3'
      unfold PySem.passOn
      refine wpAny_bind
          (wpAny_field he hd h1 ?_)
      rw [if_neg (show ¬ ((Value.ref T == Value.none)
          = true) from by simp)]
      have fin : wpAny (model X.prog X.w) X.A (setFlight (.ref a) X.env.frame) (fun _ s4 => wpAny (model X.prog X.w) X.A (throw (.ref a) : Sem Flow) (SP X pins D) X.xe s4) X.xe { s' with heap := h3.push { cls := .type "tuple", data := .seq [c1, c2].toArray } } := by
        rw [hf]
        refine HandSPX.setFlight_upZ fl3' fun h4 hh4 up4 => wpAny_throw (tk _ _ ?_)
        exact ⟨a, B, sI, pins, σ', H', cls, d, rfl, J, nb, ((up.trans up3).trans up3').trans up4, .inr (.inr (by rw [hs]; exact hh4)), na, os, ag, hno rfl⟩
      first
        | exact wpAny_bind
            (wpAny_pure (wpAny_bind fin))
        | exact wpAny_bind fin
  · cases f with
    | next =>
      obtain ⟨σ', H', J', q⟩ := hsp
      exact wpAny_execs_nil ⟨σ',
          H', J'.ofTry ok, q⟩
    | brk =>
      obtain ⟨σ', H', J', q⟩ := hsp
      exact ⟨σ', H',
          J'.ofTry ok, q⟩
    | cont =>
      obtain ⟨σ', H', J', q⟩ := hsp
      exact ⟨σ', H',
          J'.ofTry ok, q⟩
    | ret u =>
      obtain ⟨v, σ', H', J', r, q⟩ :=
          hsp
      exact ⟨v, σ', H',
          J'.ofTry ok, r, q⟩
end
end Mir
end

section
set_option Elab.async false
set_option linter.all false
set_option maxRecDepth 100000
set_option maxHeartbeats 1001000
/-! x(lambda: e), where x tries what it got and keeps the error. -/
namespace Mir
open L2 LamX PyProof.Rows PySem PySem.Spec
/-- a call that is tried: n slots, j's slot keeps None or the error; then the rest of the def -/
def mTell (n j : Nat) (kd : Addr → Option Bool) (mrest : MS) (mc : Store → (D → Store → Prop) → XC → Prop) (S : Store) (Q : D → Store → Prop) : Prop :=
  mc S (fun _ S1 => mrest { nx := fun _ S' => cutQ Q .non S', rt := cutQ Q } ((List.replicate n none).set j (some .non)) S1)
    fun C fs S1 => kd C = some true ∧ ∀ l, S1 l = none → mrest { nx := fun _ S' => cutQ Q .non S', rt := cutQ Q } ((List.replicate n none).set j (some (.ref l))) (put S1 l (.exc C fs))
/-- what the def makes of the lambda's reading -/
def TTm (K : PySem.W.Frag) (n j : Nat) (kd : Addr → Option Bool) (mrest : MS) : (XK → Hp → VK → Prop) → Hp → VK → Prop := fun tl H Q =>
  ∃ (W : Wd) (Qm : D → Store → Prop) (mc : Store → (D → Store → Prop) → XC → Prop), W.H = H ∧ RS K W ∧ Cont K W RD Q Qm ∧
    (∀ (W' : Wd) (Q' : VK) (Qm' : D → Store → Prop) (E : XK) (Xm : XC), Le W W' → RS K W' → Cont K W' RD Q' Qm' → XE K W' E Xm → mc W'.S Qm' Xm → tl E W'.H Q') ∧ mTell n j kd mrest mc W.S Qm
theorem re_slot {W : Wd} {σ : L2.St} {n j : Nat} {v : V} {d : D} (hn : σ.length = n) (hv : σ[j]? = some (some v)) (r : RD W v d) : RE W σ ((List.replicate n none).set j (some d)) := by
  refine ⟨by rw [List.length_set, List.length_replicate, hn], fun i e h => ?_⟩
  by_cases hij : j = i
  · subst hij
    have hl : j < (List.replicate n (none : Option D)).length := by
      rw [List.length_replicate, ← hn]
      exact (List.getElem?_eq_some_iff.mp hv).1
    rw [List.getElem?_set_self hl] at h
    cases h
    exact ⟨v, hv, r⟩
  · rw [List.getElem?_set_ne hij, List.getElem?_replicate] at h
    split at h <;> cases h
theorem takesN {X : Cx} : Takes X (fun _ _ _ _ => False) := fun _ _ x => by
  obtain ⟨_, _, _, _, _, _, _, _, _, _, _, _, _, _, _, _, z⟩ :=
      x
  exact z.elim
theorem gives_keep {X : Cx} {Ng : List Str} {x a n m x1 x2 q : Str} {sg : Scope} {g : Addr} {cdg c1 c2 : Value} {rest : List Stmt} {mrest : MS} {i j jn kt : Nat} {q00 q0 qn p1 p2 p3 tp pa pb q1 q2 q3 pos pos' : Pos}
    (hN : Ng.Nodup) (ha : Ng[0]? = some a) (hi : Ng[i]? = some n) (hj : Ng[j]? = some m) (hij : i ≠ j) (hj0 : j ≠ 0) (hln : sg.names.lookup n = some .local) (hlm : L2.Loc sg m)
    (hc1 : ∀ s H, Names (cxOf C8.CX0 X.prog X.w X.K X.mg X.base Ng x sg g cdg X.A X.stack s H C8.E0).nox x1 c1) (hc2 : ∀ s H, Names (cxOf C8.CX0 X.prog X.w X.K X.mg X.base Ng x sg g cdg X.A X.stack s H C8.E0).nox x2 c2)
    (hdb : (n == ("__debug__" : Str)) = false) (hdc : (n == ("__classdict__" : Str)) = false)
    (hsw : ∀ s H, swapsWith (.Name n q2) (some (.Name m q1)) q3.line (cxOf C8.CX0 X.prog X.w X.K X.mg X.base Ng x sg g cdg X.A X.stack s H C8.E0).env = pure false)
    (hsw2 : ∀ s H, swapsWith (.Call (.Name a p1) [] [] p2) none p3.line (cxOf C8.CX0 X.prog X.w X.K X.mg X.base Ng x sg g cdg X.A X.stack s H C8.E0).env = pure false)
    (hsw3 : ∀ s H, swapsWith (.Constant .none jn qn) (some (.Name m q0)) q00.line (cxOf C8.CX0 X.prog X.w X.K X.mg X.base Ng x sg g cdg X.A X.stack s H C8.E0).env = pure false)
    (hJ : ∀ s H, JB (cxOf C8.CX0 X.prog X.w X.K X.mg X.base Ng x sg g cdg X.A X.stack s H C8.E0).nox rest mrest) :
    GivesTo X Ng x sg g cdg (.Assign [.Name m q0] (.Constant .none jn qn) q00 :: .Try [.Expr (.Call (.Name a p1) [] [] p2) p3] [.ExceptHandler (some (.Tuple [.Name x1 pa, .Name x2 pb] kt tp)) (some n) [.Assign [.Name m q1] (.Name n q2) q3] pos'] [] [] pos :: rest) a q
      (TTm X.K Ng.length j (fun C => PySem.W.exmAny X.K (.ref C) [c1, c2]) mrest) := by
  intro f c' s H Q tl act hc ⟨W, Qm, mc, eH, rs, k, hmc, hm⟩
  have hset := ps_set (X := (cxOf C8.CX0 X.prog X.w X.K X.mg X.base Ng x sg g cdg X.A X.stack s H C8.E0).nox) (i := j) (pos := q00) (pos' := q0) hN hj hlm (pe_non (j := jn) (pos := qn)) (hsw3 s H) (.inl rfl)
  have htry := ps_try_keep (X := (cxOf C8.CX0 X.prog X.w X.K X.mg X.base Ng x sg g cdg X.A X.stack s H C8.E0).nox) (Wout := fun _ _ _ _ => False) (body := [.Expr (.Call (.Name a p1) [] [] p2) p3])
    (tb := fun Wd D σ H => ∃ Ech : XK, (∀ cls d σ' H', Ech cls d H' → Wd cls d σ' H') ∧ σ[0]? = some (some (.ref f)) ∧ H c' = some (CodeO c' q) ∧ tl Ech H fun v H1 => D.nx σ H1)
    (p1 := pa) (p2 := pb) (tp := tp) (kt := kt) (pos := pos) (pos' := pos') rfl rfl rfl hN hi hln hj hlm (.inl rfl) (hc1 s H) (hc2 s H) takesN (fun Wd pn xe tk _ => ⟨fun pins s' σ H' D I h' => by
      obtain ⟨Ech, hW, h1, h2, h3⟩ :=
          h'
      have hp := act Wd pn xe Ech p1 p2 tk hW
      have hq := pss_one (ps_expr (pos := p3) hp (hsw2 s H))
      exact hq.run pins s' σ H' D I ⟨h1, h2, h3⟩⟩) hdb hdc (hsw s H)
  have hrest := (hJ s H).pb _ takesN
  refine ⟨_, pss_cons hset (pss_cons htry hrest), ?_⟩
  have rest_ok : ∀ (W' : Wd) (σ : L2.St) (v : V) (d : D), Le W W' → RS X.K W' → σ.length = Ng.length → σ[j]? = some (some v) → RD W' v d → mrest { nx := fun _ S' => cutQ Qm .non S', rt := cutQ Qm } ((List.replicate Ng.length none).set j (some d)) W'.S → tS X.K mrest (fun _ _ _ _ => False) { nx := fun _ H' => Q .non H', rt := Q } σ W'.H := fun W' σ v d l rs' hn hv r q => by
    refine ⟨W', _, { nx := fun _ S' => cutQ Qm .non S', rt := cutQ Qm }, rfl, rs', re_slot hn hv r, ⟨fun W2 σ ρ l2 rs2 re q => ?_, fun W2 v d l2 rs2 r q => ?_, fun W2 σ ρ l2 rs2 re => ?_, fun _ _ _ _ _ _ q => q.elim, fun _ _ _ _ _ _ q => q.elim⟩, q⟩
    · obtain ⟨T, h, q⟩ := q
      exact k (W2.cut T) _ _ ((l.trans l2).trans (Le.cut h)) (rs2.cut h) .non q
    · obtain ⟨T, h, q⟩ := q
      exact k (W2.cut T) _ _ ((l.trans l2).trans (Le.cut h)) (rs2.cut h) (r.mono (Le.cut h)) q
    · intro W3 C dd fv fs l3 rs3 e1 e2 r2 q
      exact q.elim
  have hlen0 : (L2.start Ng [V.ref f]).length = Ng.length := by
    unfold L2.start
    have : 0 < Ng.length := (List.getElem?_eq_some_iff.mp ha).1
    rw [List.length_append, List.length_map, List.length_replicate, List.length_singleton]
    omega
  have hjl : j < Ng.length := (List.getElem?_eq_some_iff.mp hj).1
  have h0 : ((L2.start Ng [V.ref f]).set j (some .non))[0]? = some (some (V.ref f)) := by
    rw [List.getElem?_set_ne hj0]
    rfl
  subst eH
  show ∃ Ech : XK, _ ∧ ((L2.start Ng [V.ref f]).set j (some .non))[0]? = some (some (V.ref f)) ∧ W.H c' = some (CodeO c' q) ∧ tl Ech W.H _
  refine ⟨fun cls d H' => ∀ σ', wKeep X.K c1 c2 i j Ng.length (fun _ _ _ _ => False) { nx := tS X.K mrest (fun _ _ _ _ => False) { nx := fun _ H' => Q .non H', rt := Q }, rt := Q } cls d σ' H', fun cls d σ' H' h => h σ', h0, hc, hmc W _ _ _ _ (Le.refl W) rs (fun W' v d l rs' r q => ?_) (fun W' C dd fv fs l rs' e1 e2 r q => ?_) hm⟩
  · exact rest_ok W' _ .non .non l rs' (by rw [List.length_set, hlen0]) (List.getElem?_set_self (by rw [hlen0]; exact hjl)) .non q
  · intro σ'
    obtain ⟨hk, q⟩ := q
    refine ⟨true, hk, fun _ => ⟨C, dd, rfl, rfl, fun b hb hn => ?_⟩, fun z => nomatch z⟩
    have ro : RO (W'.new b (ExcAt C dd b) (.exc C fs)) b (.exc C fs) := by
      obtain ⟨k1, k2⟩ := (Le.new (u := ExcAt C dd b) (o := .exc C fs) rs' hb).k dd _ e1 e2
      exact ⟨dd, fv, upd_same, k1, k2, r.mono (Le.new rs' hb)⟩
    have lw : Le W' (W'.new b (ExcAt C dd b) (.exc C fs)) := Le.new rs' hb
    have rd : RD (W'.new b (ExcAt C dd b) (.exc C fs)) (.ref b) (.ref W'.n) := by
      have z := RD.ref (W := W'.new b (ExcAt C dd b) (.exc C fs)) W'.n (Nat.lt_succ_self _)
      rw [new_lab] at z
      exact z
    refine rest_ok (W'.new b (ExcAt C dd b) (.exc C fs)) _ (.ref b) (.ref W'.n) (l.trans lw) (rs'.new hb ro) (by rw [List.length_set, List.length_set, List.length_set]; exact hn) ?_ rd (q W'.n rs'.fresh)
    rw [List.getElem?_set_ne hij]
    exact List.getElem?_set_self (by rw [List.length_set, hn]; exact hjl)
end Mir
end

section
set_option Elab.async false
set_option linter.all false
set_option maxRecDepth 100000
set_option maxHeartbeats 1001000
/-! x(lambda: e) where nothing is guarded: the lambda's body runs without guards, too. -/
namespace Mir
open L2 LamX PyProof.Rows PySem PySem.Spec
section
variable {X : Cx}
/-- the lambda runs, called by a def that runs around A -/
theorem lam_run {pins : List (Addr × Obj)} {σ : L2.St} {H H1 : Hp} {s s1 : Shared} {A : Around} {outer : List PySem.Env} {E : XK} {Q : VK} {f c' : Addr} {pm ctv : Value} {params : Arguments} {body : Expr} {scope : Scope} {k : Nat} {tb : TE} (I : Inv X pins σ H s) (L : LamS X.env.scope scope)
    (un : Un (frs X.stack) [] H H1 s.heap s1.heap) (lim : s1.heap.NoLimit) (e0 : Env0 X.prog X.w X.K X.mg X.base A outer s1 H1) (hok : HOk X.prog X.w H1 s1.heap) (rm : Room (k + 1) A) (hgd : A.guards = some [])
    (hf : s1.heap.get? f = some (PySem.W.kla_obj "<lambda>" (X.env.qual ++ "<lambda>") params body scope (cloFrom X.env.cells scope.names []) pm c' ctv)) (hc : H1 c' = some (CodeO c' (X.env.qual ++ "<lambda>")))
    (hbind : bindArgs (PySem.W.kla_fn "<lambda>" (X.env.qual ++ "<lambda>")
        params body scope (cloFrom X.env.cells scope.names []) pm (.ref c') ctv) ⟨[], []⟩ = pure [])
    (hbody : ∀ (A : Around) (outer : List PySem.Env) (s : Shared) (H : Hp), A.guards = some [] → Room k (A.deeper (lamEnv X scope s.heap.objs.size f c')) → PE (lamCx X A outer s H E scope f c') body tb) (ht : tb σ H1 Q) :
    codeAny (model X.prog X.w) A (.call (.ref f) ⟨[], []⟩) (CR (L2.CX X.prog X.w) outer X.prog X.w H1 s1 Q E) s1 := by
  obtain ⟨⟨oc, vs, t, q1, q2, q3⟩, _, _⟩ := hok c' _ hc
  refine PySem.W.kla_callFunE rm.depth hf rfl L.co L.gen
      rfl ⟨c', oc, vs, t, rfl, q1, q2, q3⟩ ?_
  rw [hbind]
  apply wpAny_pure
  apply wpAny_newFunctionEnv (fun y hy => (L.own y hy).2) (fun y hy => absurd hy (by simp)) ?_ L.kind
  intro h₁ hns hsb
  have kp : ∀ b o, s1.heap.get? b = some o → h₁.get? b = some o := by
    intro b o e
    exact hsb.extBut b o (Nat.ne_of_lt (Heap.lt_size e)) (Heap.get?_push_of_some _ e)
  refine ⟨lim.fresh _ hsb, ?_⟩
  have J : Inv (lamCx X A outer s1 H1 E scope f c') [] σ H1 { s1 with heap := h₁, toks := s1.toks + 0 } := lam_start2 I L e0 rm.hd un hns kp
  have B := (hbody A outer s1 H1 hgd (rm.deeper (lamEnv X scope s1.heap.objs.size f c'))).run [] _ _ H1 Q J ht
  refine PySem.W.kla_codeExpr (wpAny_mono B ?_ fun e s' z => z)
  rintro v s' ⟨y, H', J', r, z⟩
  exact ⟨y, H', J'.os, J'.bare, J'.base, J'.hok, r, z⟩
/-- x() in the def that got the lambda -/
theorem act_pe {Ng : List Str} {qg a : Str} {sg : Scope} {g f c' : Addr} {cdg pm ctv : Value} {params : Arguments} {body : Expr} {scope : Scope} {k : Nat} {pins pn : List (Addr × Obj)} {σ : L2.St} {s : Shared} {H : Hp} {xe : Value → Shared → Prop} {Wx : WX} {E : XK} {tb : TE} {p1 p2 : Pos} (I : Inv X pins σ H s) (L : LamS X.env.scope scope)
    (hf : s.heap.get? f = some (PySem.W.kla_obj "<lambda>" (X.env.qual ++ "<lambda>") params body scope (cloFrom X.env.cells scope.names []) pm c' ctv)) (hfn : H f = none) (hfr : f ∉ frs X.stack)
    (hbind : bindArgs (PySem.W.kla_fn "<lambda>" (X.env.qual ++ "<lambda>")
        params body scope (cloFrom X.env.cells scope.names []) pm (.ref c') ctv) ⟨[], []⟩ = pure [])
    (tk : Takes ((cxOf C8.CX0 X.prog X.w X.K X.mg X.base Ng qg sg g cdg X.A X.stack s H C8.E0).tr pn xe) Wx) (hW : ∀ cls d σ' H', E cls d H' → Wx cls d σ' H') (rm : Room (k + 1) (X.A.deeper (envOfC qg sg s.heap.objs.size g cdg))) (hgd : X.A.guards = some [])
    (hbody : ∀ (A : Around) (outer : List PySem.Env) (s : Shared) (H : Hp), A.guards = some [] → Room k (A.deeper (lamEnv X scope s.heap.objs.size f c')) → PE (lamCx X A outer s H E scope f c') body tb)
    (hN : Ng[0]? = some a) (hv : Vis sg a) (hd : (a == ("__debug__" : Str)) = false) (hcd : (a == ("__classdict__" : Str)) = false) :
    PE ((cxOf C8.CX0 X.prog X.w X.K X.mg X.base Ng qg sg g cdg X.A X.stack s H C8.E0).tr pn xe) (.Call (.Name a p1) [] [] p2)
      (fun σZ HZ Q => σZ[0]? = some (some (.ref f)) ∧ HZ c' = some (CodeO c' (X.env.qual ++ "<lambda>")) ∧ tb σ HZ Q) := by
  constructor
  rintro pinsZ sZ σZ HZ Q IZ ⟨hs, hc, ht⟩
  have got := (pe_var (X := (cxOf C8.CX0 X.prog X.w X.K X.mg X.base Ng qg sg g cdg X.A X.stack s H C8.E0).tr pn xe) (pos := p1) (i := 0) hN hv hd hcd).run pinsZ sZ σZ HZ (fun v H1 => v = .ref f ∧ H1 = HZ) IZ ⟨_, hs, rfl, rfl⟩
  apply wpAny_Call_Name_kw
  refine thn got ?_
  rintro u s1 ⟨v, H1, I1, r1, e1, e2⟩
  rw [e1] at r1
  rw [e2] at I1
  have eu : u = Value.ref f := r1
  rw [eu]
  have of1 := I1.base.keep f _ hf hfn hfr (fun z => nomatch (show f ∈ ([] : List Addr) from z))
  refine PySem.W.callWith_F0 ⟨_,
      _, _, _, of1⟩ ?_
  have run := lam_run (E := E) (Q := Q) I L I1.base I1.nolimit I1.env0 I1.hok rm hgd of1 hc hbind hbody ht
  have out : Passes (L2.CX X.prog X.w) ((cxOf C8.CX0 X.prog X.w X.K X.mg X.base Ng qg sg g cdg X.A X.stack s H C8.E0).tr pn xe) E := passes_call tk hW
  refine wpAny_call (codeAny_mono run ?_)
  rintro (e | fl) s' hq
  · exact out pinsZ σZ HZ s1 e s' I1 hq
  · cases fl with
    | ret u => exact I1.after hq
    | next => exact hq.elim
    | brk => exact hq.elim
    | cont => exact hq.elim
/-- x(lambda: body), x a def that tries what it got -/
def mLam (T : List (Addr × Str)) (n j : Nat) (kd : Addr → Option Bool) (mrest : MS) (me : Mr D) : Mr D := fun ρ S Q _ => S 0 = some (.tabs T) ∧ mTell n j kd mrest (fun S' Q' X' => me ρ S' Q' X') S Q
/-- the tables change, nothing else -/
theorem RS.tabs {K : PySem.W.Frag} {W : Wd} (R : RS K W) {H1 : Hp} (e : ExtN W.H H1) (t : Tabs W.T H1) : Le W { W with H := H1 } ∧ RS K { W with H := H1 } := by
  have l : Le W { W with H := H1 } := ⟨Nat.le_refl _, fun _ _ => rfl, fun a o h n nt => ⟨e a o h nt, n⟩, rfl, rfl⟩
  refine ⟨l, R.dom, fun lb o ho => ?_, R.inj, R.kl, t⟩
  have z := R.obj lb o ho
  cases o with
  | lst xs => obtain ⟨_, h, r⟩ := z; exact ⟨_, e _ _ h nofun, r.mono l⟩
  | dk xs => obtain ⟨_, h, r⟩ := z; exact ⟨_, e _ _ h nofun, r.mono l⟩
  | dt xs => obtain ⟨_, h, r⟩ := z; exact ⟨_, e _ _ h nofun, r.mono l⟩
  | orc xs => obtain ⟨_, _, h, r, p⟩ := z; exact ⟨_, _, e _ _ h nofun, r.mono l, p⟩
  | exc C xs => obtain ⟨_, _, h, h2, n, r⟩ := z; exact ⟨_, _, e _ _ h nofun, e _ _ h2 nofun, n, r.mono l⟩
  | tabs T =>
    obtain ⟨h, ⟨p, hp, ea⟩, _⟩ := z
    obtain ⟨ps, hP, _⟩ := t p (by rw [h]; exact hp)
    exact ⟨h, ⟨p, hp, ea⟩, _, by show H1 (W.μ lb) = _; rw [ea]; exact hP⟩
theorem je_lam {T : List (Addr × Str)} {x a n m x1 x2 : Str} {g c P : Addr} {k : Nat} {pg : Arguments} {sg : Scope} {dV kV doc pm cdv ct oc : Value} {an od : Option Addr} {osl : Array (Option Value)} {Ng : List Str} {me : Mr D} {mrest : MS} {rest : List Stmt} {c1 c2 : Value} {i j jn kt : Nat} {q00 q0 qn p1 p2 p3 tp pa pb q1 q2 q3 tpos tpos' : Pos}
    {params : Arguments} {body : Expr} {scope : Scope} {p lpos pos : Pos} (hg : Gl X x) (hm : X.mg x = some (.ref g)) (hk : PySem.W.keepIn X.K (.ref g) = true) (hgd : X.A.guards = some [])
    (lk : X.K.lookup g = some ⟨oc, od, .func (PySem.W.fnOf x x pg (.Assign [.Name m q0] (.Constant .none jn qn) q00 :: .Try [.Expr (.Call (.Name a p1) [] [] p2) p3] [.ExceptHandler (some (.Tuple [.Name x1 pa, .Name x2 pb] kt tp)) (some n) [.Assign [.Name m q1] (.Name n q2) q3] tpos'] [] [] tpos :: rest) sg dV kV doc pm an cdv ct), osl⟩)
    (hcg : PySem.W.codeIn X.K cdv x = true) (hb : L2.Binds X.K (PySem.W.fnOf x x pg (.Assign [.Name m q0] (.Constant .none jn qn) q00 :: .Try [.Expr (.Call (.Name a p1) [] [] p2) p3] [.ExceptHandler (some (.Tuple [.Name x1 pa, .Name x2 pb] kt tp)) (some n) [.Assign [.Name m q1] (.Name n q2) q3] tpos'] [] [] tpos :: rest) sg dV kV doc pm an cdv ct) [a] [])
    (Sg : FnScope Ng [a] sg) (hNg : Ng[0]? = some a) (hva : Vis sg a)
    (hG : GivesTo X Ng x sg g cdv (.Assign [.Name m q0] (.Constant .none jn qn) q00 :: .Try [.Expr (.Call (.Name a p1) [] [] p2) p3] [.ExceptHandler (some (.Tuple [.Name x1 pa, .Name x2 pb] kt tp)) (some n) [.Assign [.Name m q1] (.Name n q2) q3] tpos'] [] [] tpos :: rest) a (X.env.qual ++ "<lambda>") (TTm X.K Ng.length j (fun C => PySem.W.exmAny X.K (.ref C) [c1, c2]) mrest))
    (TB : TabB X.base X.mg c P) (hcode : X.env.code = .ref c) (hmT : (P, X.env.qual ++ "<lambda>") ∈ T) (hu : ∀ p ∈ T,
        p.1 = P → p.2 = X.env.qual ++ "<lambda>") (hr : Room (k + 2) X.A) (L : LamS X.env.scope scope) (hdef : defaultsOf params X.env = ([], []))
    (hbind : ∀ (q : Str) (cl : List (Str × Addr)) (pm cv ctv : Value),
        bindArgs (PySem.W.kla_fn "<lambda>" q params body scope cl pm cv ctv) ⟨[], []⟩ = pure [])
    (hbody : ∀ (A : Around) (outer : List PySem.Env) (s : Shared) (H : Hp) (E : XK) (f c' : Addr), (lamCx X A outer s H E scope f c').A.guards = some [] → Room k (lamCx X A outer s H E scope f c').A → JE (lamCx X A outer s H E scope f c') body me)
    (hdb : (x == ("__debug__" : Str)) = false := by decide) (hd : (a == ("__debug__" : Str)) = false :=
        by decide) (hcd : (a == ("__classdict__" : Str)) = false := by decide) :
    JE X (.Call (.Name x p) [.Lambda params body scope lpos] [] pos) (mLam T Ng.length j (fun C => PySem.W.exmAny X.K (.ref C) [c1, c2]) mrest me) := by
  constructor
  intro Wx tk
  constructor
  rintro pins s σ H Q I ⟨W, ρ, Qm, Xm, rfl, rs, re, xr, kc, hS, q⟩
  have eT : W.T = T := (rs.obj 0 _ hS).1
  have tT : Tabs T W.H := by rw [← eT]; exact rs.tb
  apply wpAny_Call_Name_kw
  refine ld_glob I hg hm ?_ hdb
  refine PySem.W.callWith_K (h₀ := X.base) I.ok.mod.kin hk ?_
      (by rfl) (by rfl)
  show wpAny _ _ (spliced ((false, eval (.Lambda params body scope lpos) X.env) :: backTo pos (starEach []
    X.env))) _ _ s
  apply Calls.spliced_cons
  refine lam_make2 I TB hcode hmT hu tT hdef (L.has I.ok) ?_
  intro f c' pm' ctv H1 s' I1 eN T1 hf hfn hfr hco
  refine Calls.spliced_nil ⟨I1.kIn,
      ?_⟩
  obtain ⟨l1, rs1⟩ := rs.tabs eN (by rw [eT]; exact T1)
  have told : TTm X.K Ng.length j (fun C => PySem.W.exmAny X.K (.ref C) [c1, c2]) mrest (fun E H' Q' => tE X.K me (fun cls d _ H2 => E cls d H2) σ H' Q') H1 Q :=
    ⟨{ W with H := H1 }, Qm, fun S' Q' X' => me ρ S' Q' X', rfl, rs1, kc.mono l1, fun W' Q' Qm' E Xm' l' rs' k' x' z => ⟨W', ρ, Qm', Xm', rfl, rs', re.mono (l1.trans l'), fun W2 C dd fv fs l2 r2 a1 a2 a3 a4 => x' W2 C dd fv fs l2 r2 a1 a2 a3 a4, k', z⟩, q⟩
  have run : codeAny (model X.prog X.w) X.A (.call (.ref g) ⟨[.ref f], []⟩) (CR C8.CX0 X.stack X.prog X.w H1 s' Q C8.E0) s' := by
    refine run_ofS (N := Ng) (ps := [a]) (us := [.ref f]) (vs := [.ref f]) lk hcg Sg hr I1.env0 (hb s' [.ref f] I1.kIn rfl) (.cons rfl .nil) rfl ?_
    intro rm
    obtain ⟨t', b1, b2⟩ := hG f c' s' H1 Q _ (fun Wd pn xe E r1 r2 tk hW => act_pe I1 L hf hfn hfr (hbind _ _ _ _ _) tk hW rm hgd (fun A outer s H g2 m2 => (hbody A outer s H E f c' g2 m2).pe _ (takes_of rfl rfl rfl rfl)) hNg hva hd hcd) hco told
    exact ⟨t', b1.nox, b2⟩
  refine wpAny_call (codeAny_mono run ?_)
  rintro (e | fl) s2 hq
  · exact (show False from hq).elim
  · cases fl with
    | ret u => exact I1.after hq
    | next => exact False.elim hq
    | brk => exact False.elim hq
    | cont => exact False.elim hq
end
end Mir
end

section
set_option Elab.async false
set_option linter.all false
set_option maxRecDepth 100000
set_option maxHeartbeats 1001000
/-! raise C(e, ..): an error class of one's own whose __init__ stores its parameters. -/
namespace Mir
open L2 PyProof.Rows PySem PySem.Spec
/-- what such an __init__ does: after it the exception has a dict with the fields -/
def initSp (K : PySem.W.Frag) (C : Addr) (fs : List Str) : Sp := fun vs H Q _ => ∃ (a : Addr) (ys : List V), vs = .ref a :: ys ∧ ys.length = fs.length ∧ H a = some (exo a C none) ∧
  ∀ (dx : Addr) (H' : Hp), H dx = none → dx ≠ a → H' a = some (exo a C (some dx)) → H' dx = some (exd dx (fs.zip ys).reverse) → (∀ b, b ≠ a → b ≠ dx → H' b = H b) → Q .non H'
theorem initSp_len {K : PySem.W.Frag} {C : Addr} {fs : List Str} : ∀ vs H Q E, initSp K C fs vs H Q E → vs.length = (("self" : Str) :: fs).length := by
  rintro vs H Q E ⟨a, ys, rfl, h, _⟩
  simp [h]
/-- an error class of the package -/
structure ErrOk (P : Program) (w : World) (K : PySem.W.Frag) (mg : Str → Option Value) (base : Heap) (x : Str) (C : Addr) (fs : List Str) : Prop where
  gl : mg x = some (.ref C)
  T : OexC K C
  init : ∃ (fI : Addr) (fd : FuncData), PySem.W.findIn K (.ref C) "__init__" = some (some (.ref fI)) ∧ PySem.W.typeIn K (.ref fI) = some (.type "function") ∧ Binds K fd ("self" :: fs) [] ∧ ∀ k, FnOk P w K mg base (L2.CX P w) (k + 1) fI fd ("self" :: fs) (initSp K C fs)
section
variable {X : Cx}
def mRaise (C : Addr) (fs : List Str) (ms : Mr (List D)) : MS := fun M ρ S => ms ρ S (fun ds S1 => ds.length = fs.length ∧ M.xc C (fs.zip ds).reverse ρ S1) (M.x ρ)
theorem zip_RK {W : Wd} : ∀ {fs : List Str} {vs : List V} {ds : List D}, RDs W vs ds → RK W (fs.zip vs) (fs.zip ds)
  | [], _, _, _ => .nil
  | _ :: _, _, _, .nil => .nil
  | f :: fs, _, _, .cons r t => .cons ⟨rfl, r⟩ (zip_RK t)
theorem RK.app {W : Wd} {κ : Type} : ∀ {a b : List (κ × V)} {a' b' : List (κ × D)}, RK W a a' → RK W b b' → RK W (a ++ b) (a' ++ b')
  | _, _, _, _, .nil, h => h
  | _, _, _, _, .cons r t, h => .cons r (RK.app t h)
theorem RK.rev {W : Wd} {κ : Type} : ∀ {a : List (κ × V)} {a' : List (κ × D)}, RK W a a' → RK W a.reverse a'.reverse
  | _, _, .nil => .nil
  | _, _, .cons r t => by
    rw [List.reverse_cons,
        List.reverse_cons]
    exact RK.app (RK.rev t) (.cons r .nil)
theorem js_raise {x : Str} {C : Addr} {fs : List Str} {e : Expr} {es : List Expr} {ms : Mr (List D)} {k : Nat} {p pos pos' : Pos} (E : ErrOk X.prog X.w X.K X.mg X.base x C fs) (hfs : fs.length ≤ 100) (hc : X.calm = true) (hr : Room (k + 2) X.A) (ha : JA X (e :: es) ms) (hg : Gl X x)
    (hdb : (x == ("__debug__" : Str)) = false := by decide) (he : starEach (e :: es) X.env = (false, eval e X.env)
        :: starEach es X.env := by rfl) (hpl : (backTo pos (starEach es X.env)).any (·.1) = false := by rfl) :
    JS X (.Raise (some (.Call (.Name x p) (e :: es) [] pos)) none pos') (mRaise C fs ms) := by
  obtain ⟨gl, T, fI, fd, i1, i2, i3, i4⟩ := E
  refine ⟨fun Wx tk => ps_imp (ps_raise hc tk (pmk_oex T i1 i2 (i4 k) hr i3 .nil (passL (X := X)) hg gl (ha.pa Wx tk) hdb he hpl)) fun D σ H ⟨W, ρ, M, eH, rs, re, er, q⟩ => ?_⟩
  subst eH
  refine ⟨W, ρ, _, M.x ρ, rfl, rs, re, er.xc W σ ρ (Le.refl W) rs re, fun W1 vs ds l rs1 r1 m1 => ?_, q⟩
  obtain ⟨hl, m1⟩ := m1
  have hlen := r1.length
  refine ⟨by omega, fun a ha => ⟨a, vs, by rw [List.append_nil], by omega, upd_same, fun dx H' h1 h2 h3 h4 h5 => ⟨rfl, dx, _, h3, h4, ?_, ?_⟩⟩⟩
  · rw [upd_ne h2] at h1
    exact h1
  · rw [upd_ne h2] at h1
    have eH : upd (L2.del H' a) dx (.xd (fs.zip vs).reverse) = upd W1.H dx (.xd (fs.zip vs).reverse) := by
      funext b
      by_cases hb : b = dx
      · subst hb
        rw [upd_same, upd_same]
      · rw [upd_ne hb, upd_ne hb]
        by_cases hb2 : b = a
        · subst hb2
          rw [L2.del_same, ha]
        · rw [L2.del_ne hb2, h5 b hb2 hb, upd_ne hb2]
    rw [eH]
    have l2 : Le W1 (W1.add dx (.xd (fs.zip vs).reverse)) := Le.add rs1 h1
    have rs2 := rs1.add (u := .xd (fs.zip vs).reverse) h1
    exact er.xc W1 σ ρ l rs1 (re.mono l) (W1.add dx (.xd (fs.zip vs).reverse)) C dx (fs.zip vs).reverse (fs.zip ds).reverse l2 rs2 upd_same (dead_add rs1 h1) (RK.rev (zip_RK (r1.mono l2))) m1
end
section
variable {P : Program} {w : World} {K :
    PySem.W.Frag} {mg : Str → Option Value} {base : Heap}
/-- one field -/
theorem init1 {qual f1 : Str} {st : Stmt} {fI C : Addr} {fd : FuncData} {p p' q pos : Pos} {k : Nat} (F : Fun K "__init__" qual st fI fd) (S : FnScope ["self", f1] ["self", f1] (defScope st)) (T : OexC K C) (h1 : PySem.W.findIn K (.ref C) f1 = some none)
    (hb : defBody st = [.Assign [.Attribute (.Name "self" p) f1 p'] (.Name f1 q) pos]) (v0 : Vis (defScope st) "self") (v1 : Vis (defScope st) f1) (d1 : (f1 == ("__debug__" : Str)) = false) (c1 : (f1 == ("__classdict__" : Str)) = false)
    (sw : ∀ env : PySem.Env, env.scope = defScope st → swapsWith (.Name f1 q) (some (.Attribute (.Name "self" p) f1 p')) pos.line env = pure false) : FnOk P w K mg base (L2.CX P w) (k + 1) fI fd ["self", f1] (initSp K C [f1]) :=
  Fun.okX F S initSp_len fun cdv A outer s H vs Q E hr ⟨a, ys, e1, hl, ea, h⟩ => by
    match ys, hl with
    | [y], _ =>
      rw [hb, e1]
      refine ⟨_, pss_one (ps_ost (pv 0 rfl v0) (pv 1 rfl v1 d1 c1) (sw _ rfl)), ?_⟩
      refine ⟨y, rfl, .ref a, rfl, a, C, rfl, T, h1, .inl ⟨ea, fun dx hd hne => ?_⟩⟩
      refine h dx _ hd hne upd_same ?_ fun b b1 b2 => ?_
      · rw [upd_ne hne, upd_same]
        rfl
      · rw [upd_ne b1, upd_ne b2]
/-- two fields -/
theorem init2 {qual f1 f2 : Str} {st : Stmt} {fI C : Addr} {fd : FuncData} {p p' q pos r r' u pos2 : Pos} {k : Nat} (F : Fun K "__init__" qual st fI fd) (S : FnScope ["self", f1, f2] ["self", f1, f2] (defScope st)) (T : OexC K C) (h1 : PySem.W.findIn K (.ref C) f1 = some none) (h2 : PySem.W.findIn K (.ref C) f2 = some none)
    (hb : defBody st = [.Assign [.Attribute (.Name "self" p) f1 p'] (.Name f1 q) pos, .Assign [.Attribute (.Name "self" r) f2 r'] (.Name f2 u) pos2]) (v0 : Vis (defScope st) "self") (v1 : Vis (defScope st) f1) (v2 : Vis (defScope st) f2) (d1 : (f1 == ("__debug__" : Str)) = false) (c1 : (f1 == ("__classdict__" : Str)) = false) (d2 : (f2 == ("__debug__" : Str)) = false) (c2 : (f2 == ("__classdict__" : Str)) = false)
    (sw : ∀ env : PySem.Env, env.scope = defScope st → swapsWith (.Name f1 q) (some (.Attribute (.Name "self" p) f1 p')) pos.line env = pure false)
    (sw2 : ∀ env : PySem.Env, env.scope = defScope st → swapsWith (.Name f2 u) (some (.Attribute (.Name "self" r) f2 r')) pos2.line env = pure false) : FnOk P w K mg base (L2.CX P w) (k + 1) fI fd ["self", f1, f2] (initSp K C [f1, f2]) :=
  Fun.okX F S initSp_len fun cdv A outer s H vs Q E hr ⟨a, ys, e1, hl, ea, h⟩ => by
    match ys, hl with
    | [y, z], _ =>
      rw [hb, e1]
      refine ⟨_, pss_cons (ps_ost (pv 0 rfl v0) (pv 1 rfl v1 d1 c1) (sw _ rfl)) (pss_one (ps_ost (pv 0 rfl v0) (pv 2 rfl v2 d2 c2) (sw2 _ rfl))), ?_⟩
      refine ⟨y, rfl, .ref a, rfl, a, C, rfl, T, h1, .inl ⟨ea, fun dx hd hne => ?_⟩⟩
      refine ⟨z, rfl, .ref a, rfl, a, C, rfl, T, h2, .inr ⟨dx, [(f1, y)], upd_same, by rw [upd_ne hne, upd_same], show 1 ≤ 900 by decide, ?_⟩⟩
      refine h dx _ hd hne (by rw [upd_ne (Ne.symm hne), upd_same]) ?_ fun b b1 b2 => ?_
      · rw [upd_same]
        rfl
      · rw [upd_ne b2, upd_ne b1, upd_ne b2]
end
end Mir
end

section
set_option Elab.async false
set_option linter.all false
set_option maxRecDepth 100000
set_option maxHeartbeats 2001000
/-! A kept error: its class is asked, its fields are read. -/
namespace Mir
open L2 PyProof.Rows PySem PySem.Spec
section
variable {X : Cx}
/-- how such an error stands -/
theorem inst_at {pins : List (Addr × Obj)} {σ : L2.St} {H : Hp} {s : Shared} {a C dd : Addr} {fs : List (Str × V)} (I : Inv X pins σ H s) (ha : H a = some (ExcAt C dd a)) (hd : H dd = some (.xd fs)) :
    ∃ (oe od : Obj) (mA : Str → Option Value), PySem.W.InstAt s.heap a oe C (some od) ∧ (∀ f, RelO (fs.lookup f) (mA f)) ∧ ∀ n, PySem.W.lookIn n od = some (mA n) := by
  have h1 : ObjOk X.prog X.w H s.heap a (ExcAt C dd a) := I.hok a _ ha
  have h2 : ObjOk X.prog X.w H s.heap dd (.xd fs) := I.hok dd _ hd
  obtain ⟨⟨oe, vs, e1, z, d⟩, _, _⟩ := h1
  obtain ⟨mA, hns, hr⟩ := h2
  obtain ⟨od, ho, hl⟩ :=
      lookIn_ns hns
  exact ⟨oe, od, mA, ⟨e1, z.1, by unfold PySem.W.notCls; rw [d] <;> rfl, by rw [z.2]; exact ho⟩, hr, hl⟩
/-- isinstance(e, c), e a kept error -/
def rIsX (K : PySem.W.Frag) : List V → Hp → VK → Prop := fun xs H Q => ∃ (a C dd : Addr) (fs : List (Str × V)) (c : V) (cv : Value) (b : Bool), xs = [.ref a, c] ∧ (∀ u, RelV c u → u = cv) ∧ H a = some (ExcAt C dd a) ∧ H dd = some (.xd fs) ∧ ExcC K C ∧ PySem.W.kitOne K (.ref C) cv = some b ∧ Q (.bl b) H
theorem call_isX : CallR X (.builtin "isinstance") (rIsX X.K) := by
  rintro pins s σ H xs us Q I r ⟨a, C, dd, fs, c, cv, b, rfl, hcv, ha, hd, E, e, q⟩
  cases r with
  | cons rx rr => cases rr with
    | cons rt rr =>
      cases rr
      cases rx
      rw [hcv _ rt]
      obtain ⟨oe, od, mA, J, _, _⟩ := inst_at I ha hd
      exact PySem.W.kia_one (PySem.W.kitx_exc (by obtain ⟨cd, hc, _⟩ := PySem.W.any_some E.hd; rw [hc]; rfl) E.hg E.hk E.hs E.ha E.hn E.ht E.hm) I.kIn J e (fun z => nomatch z) fun tk => ⟨.bl b, H, I.kept (t' := tk) fun _ _ z => z, rfl, q⟩
/-- of an error in the store: its class -/
def excS (S : Store) : D → Option (Addr × List (Str × D))
  | .ref l => (S l).bind fun o => match o with
    | .exc C fs => some (C, fs)
    | _ => none
  | _ => none
theorem excS_of {K : PySem.W.Frag} {W : Wd} (rs : RS K W) {v : V} {d : D} {C : Addr} {fs : List (Str × D)} (r : RD W v d) (h : excS W.S d = some (C, fs)) : ∃ (a dd : Addr) (fv : List (Str × V)), v = .ref a ∧ W.H a = some (ExcAt C dd a) ∧ W.H dd = some (.xd fv) ∧ RK W fv fs := by
  cases r with
  | ref l hl =>
    cases e : W.S l with
    | none => rw [excS, e] at h; cases h
    | some o =>
      rw [excS, e] at h
      cases o with
      | exc C' fs' =>
        cases h
        obtain ⟨dd, fv, h1, h2, _, h4⟩ := rs.obj _ _ e
        exact ⟨W.μ l, dd, fv, rfl, h1, h2, h4⟩
      | lst xs => cases h
      | dk xs => cases h
      | dt xs => cases h
      | orc xs => cases h
      | tabs T => cases h
  | _ => cases h
def mIsC (ok : Addr → Prop) (kd : Addr → Option Bool) (me : Mr D) : Mr D := fun ρ S Q X => me ρ S (fun d S1 => match excS S1 d with
  | some (C, _) => ok C ∧ ∃ b, kd C = some b ∧ Q (.bl b) S1
  | none => False) X
theorem je_isC {e : Expr} {me : Mr D} {T : Str} {c : V} {cv : Value} {p p2 pos : Pos} (hm : X.mg "isinstance" = none) (hT : PE X (.Name T p2) (tC c)) (hc : ∀ u, RelV c u → u = cv) (ha : JE X e me) (hg : Gl X "isinstance" := by rfl)
    (he : starEach [e, .Name T p2] X.env = (false, eval e X.env) :: starEach [.Name T p2] X.env := by rfl) (he2 : starEach [.Name T p2] X.env = (false, eval (.Name T p2) X.env) :: starEach [] X.env := by rfl) (hpl : (backTo pos (starEach [.Name T p2] X.env)).any (·.1) = false := by rfl) :
    JE X (.Call (.Name "isinstance" p) [e, .Name T p2] [] pos) (mIsC (ExcC X.K) (fun C => PySem.W.kitOne X.K (.ref C) cv) me) :=
  ⟨fun Wx tk => pe_imp (pe_callB call_isX hg hm (by decide +kernel) (pa_cons (ha.pe Wx tk) (pa_cons hT pa_nil he2) he) (by decide) (by decide) he hpl) fun σ H Q ⟨W, ρ, Qm, Xm, eH, rs, re, xr, k, q⟩ => by
    subst eH
    refine ⟨W, ρ, _, Xm, rfl, rs, re, xr, fun W1 v d l1 rs1 r1 m1 => ?_, q⟩
    split at m1
    · rename_i C fs e1
      obtain ⟨a, dd, fv, rfl, h1, h2, _⟩ := excS_of rs1 r1 e1
      obtain ⟨m0, b, m1, m2⟩ := m1
      exact ⟨a, C, dd, fv, c, cv, b, rfl, hc, h1, h2, m0, m1, k W1 _ _ l1 rs1 (.bl _) m2⟩
    · exact m1.elim⟩
/-- e.f, e a kept error -/
def tFldX (K : PySem.W.Frag) (f : Str) (te : TE) : TE := fun σ H Q => te σ H fun x H1 => ∃ (a C dd : Addr) (fs : List (Str × V)) (v : V), x = .ref a ∧ H1 a = some (ExcAt C dd a) ∧ H1 dd = some (.xd fs) ∧ XfC K C ∧ PySem.W.findIn K (.ref C) f = some none ∧ fs.lookup f = some v ∧ Q v H1
theorem pe_fldX {e : Expr} {te : TE} {pos : Pos} {n : Str} (he : PE X e te) (hb : attributeBase e n X.env (eval e X.env) = eval e X.env := by rfl) : PE X (.Attribute e n pos) (tFldX X.K n te) := by
  constructor
  intro pins s σ H Q I h
  refine attr_of hb (thn (he.run pins s σ H _ I h) ?_)
  rintro u s1 ⟨x, H1, I1, rx, a, C, dd, fs, v, rfl, ha, hd, T, hno, l, q⟩
  obtain rfl : u = Value.ref a :=
      rx
  obtain ⟨oe, od, mA, J, hr, hl⟩ := inst_at I1 ha hd
  obtain ⟨y, hy, ry⟩ := RelO.some_of (v := v) (o := mA n) (by rw [← l]; exact hr n)
  exact HandSPX.exc_get I1.kIn J T.ga T.gg T.exC (PySem.W.findObj_own T.hdC hno rfl (by rw [hl, hy])) (handed_of ry) ⟨v, H1, I1.tok _, ry, q⟩
def mFld (ok : Addr → Prop) (f : Str) (me : Mr D) : Mr D := fun ρ S Q X => me ρ S (fun d S1 => match excS S1 d with
  | some (C, fs) => ok C ∧ ∃ y, fs.lookup f = some y ∧ Q y S1
  | none => False) X
theorem RK.lkp {W : Wd} {f : Str} {y : D} : ∀ {fv : List (Str × V)} {fs : List (Str × D)}, RK W fv fs → fs.lookup f = some y → ∃ v, fv.lookup f = some v ∧ RD W v y
  | _, _, .nil, h => by simp at h
  | (g, v) :: fv, (g', z) :: fs, .cons r t, h => by
    obtain ⟨e, r⟩ := r
    have e : g = g' := e
    subst e
    rw [List.lookup_cons] at h ⊢
    cases q : f == g with
    | true => rw [q] at h; cases h; exact ⟨v, rfl, r⟩
    | false => rw [q] at h; exact RK.lkp t h
theorem je_fld {e : Expr} {me : Mr D} {n : Str} {pos : Pos} (he : JE X e me) (hb : attributeBase e n X.env (eval e X.env) = eval e X.env := by rfl) : JE X (.Attribute e n pos) (mFld (fun C => XfC X.K C ∧ PySem.W.findIn X.K (.ref C) n = some none) n me) :=
  ⟨fun Wx tk => pe_imp (pe_fldX (he.pe Wx tk) hb) fun σ H Q ⟨W, ρ, Qm, Xm, eH, rs, re, xr, k, q⟩ => by
    subst eH
    refine ⟨W, ρ, _, Xm, rfl, rs, re, xr, fun W1 v d l1 rs1 r1 m1 => ?_, q⟩
    split at m1
    · rename_i C fs e1
      obtain ⟨a, dd, fv, rfl, h1, h2, h3⟩ := excS_of rs1 r1 e1
      obtain ⟨⟨T, hno⟩, y, hy, m1⟩ := m1
      obtain ⟨v, hv, rv⟩ := RK.lkp h3 hy
      exact ⟨a, C, dd, fv, v, rfl, h1, h2, T, hno, hv, k W1 _ _ l1 rs1 rv m1⟩
    · exact m1.elim⟩
end
end Mir
end

section
set_option Elab.async false
set_option linter.all false
set_option maxRecDepth 100000
set_option maxHeartbeats 2001000
/-! The head of a law whose defs make lambdas: tables of code objects, empty at the start. -/
namespace Mir
open L2 LamX PyProof.Rows PySem PySem.Spec
/-- makers: a code object, its table, the lambda's name -/
abbrev Mks := List (Addr × Addr × Str)
def tabT (ms : Mks) : List (Addr × Str) := ms.map fun p => (p.2.1, p.2.2)
/-- what a law's mirror promises, the tables standing at label 0 -/
def LawIsT (T : List (Addr × Str)) (F : MF) : Prop := ∀ ns : List Int, ns.length ≤ 63 → F [.frz (ns.map D.int)] (put (fun _ => none) 0 (.tabs T)) (fun d _ => d = .bl true) fun _ _ _ => False
def W1 (K : PySem.W.Frag) (H : Hp) (P0 : Addr) (T : List (Addr × Str)) : Wd := ⟨fun _ => P0, 1, put (fun _ => none) 0 (.tabs T), H, SqC K, T⟩
theorem live1 {K : PySem.W.Frag} {H : Hp} {P0 a : Addr} {T : List (Addr × Str)} (h : Live (W1 K H P0 T) a) : P0 = a := let ⟨_, _, _, e⟩ := h; e
theorem rs1 {K : PySem.W.Frag} {H : Hp} {P0 : Addr} {T : List (Addr × Str)} (h0 : ∃ p ∈ T, P0 = p.1) (hT : ∀ p ∈ T, H p.1 = some (.tbl #[])) : RS K (W1 K H P0 T) := by
  have key : ∀ l o, (W1 K H P0 T).S l = some o → l = 0 ∧ o = .tabs T := fun l o e => by
    by_cases hl : l = 0
    · subst hl
      have z : put (fun _ => none) 0 (O.tabs T) 0 = some o := e
      rw [put_same] at z
      exact ⟨rfl, (Option.some.inj z).symm⟩
    · have z : put (fun _ => none) 0 (O.tabs T) l = some o := e
      rw [put_ne hl] at z
      cases z
  refine ⟨fun l o e => ?_, fun l o e => ?_, fun l l' o o' e e' _ => ?_, fun _ _ h => h, fun p hp => TabS.nil (hT p hp)⟩
  · rw [(key l o e).1]
    exact Nat.zero_lt_one
  · rw [(key l o e).2]
    obtain ⟨p, hp, e0⟩ := h0
    exact ⟨rfl, ⟨p, hp, e0⟩, _, by show H P0 = _; rw [e0]; exact hT p hp⟩
  · rw [(key l o e).1, (key l' o' e').1]
theorem law_callGT {P : Program} {w : World} {K : PySem.W.Frag} {mg mb : Str → Option Value} {k : Nat} {fa a : Addr} {F : MF} {ms : Mks} {s₁ : Shared} {vs : List Value} {ns : List Int}
    (KX : K.In s₁.heap) (hns : s₁.heap.Ns mainGlobals mg) (hb : s₁.heap.Ns builtinsNs mb)
        (hbb : ∀ x : Str, x ≠ "__name__" → mb x = bootBuiltins x) (hlim : s₁.heap.NoLimit) (hg : s₁.gens = #[])
    (hT : ∀ p ∈ ms, s₁.heap.get? p.2.1 = some { cls := .none, data := .fields #[] }) (nT : ∀ p ∈ ms, K.lookup p.2.1 = none) (Cd : ∀ p ∈ ms, PySem.W.CodeHd s₁.heap p.1 p.2.1) (ne : ms ≠ [])
    (hbm : ∃ (bm : Addr) (ob : Obj), mg "__builtins__" = some (.ref bm)
        ∧ bm ≠ builtinsNs ∧ s₁.heap.get? bm = some ob ∧ ob.cls = .type "module" ∧ ob.dict = some builtinsNs ∧ ob.data = .plain)
    (ha : s₁.heap.get? a = some { cls := .type "list", data := .seq vs.toArray }) (hi : IntsAre vs ns) (hl : ns.length ≤ 63) (hr : Room k callerA)
    (G : ∀ base : Heap, K.In base → base.Ns mainGlobals mg → (∀ p ∈ ms, TabB base mg p.1 p.2.1) → FnG P w K mg base k fa 1 [] F) (hF : LawIsT (tabT ms) F) :
    codeAny (model P w) callerA (.call (.ref fa) ⟨[.ref a], []⟩) (fun r s' =>
        r = .ok (.ret (.bool true)) ∧ OldK s₁.heap s'.heap ∧ s'.os = s₁.os ∧ AllBare s'.gens) s₁ := by
  have rv : Vals (ns.map V.int) vs := vals_ints hi
  have lenV : vs.length = ns.length := hi.length
  have big : ns.length ≤ sizeLine := Nat.le_trans hl (by decide)
  -- what stands at a table's place
  have at_T : ∀ b ∈ ms.map (·.2.1), s₁.heap.get? b = some { cls := .none, data := .fields #[] } := fun b h => by
    obtain ⟨p, hp, rfl⟩ :=
        List.mem_map.mp h
    exact hT p hp
  have a_T : a ∉ ms.map (·.2.1) := fun z => by
    have q := at_T a z
    rw [ha] at q
    exact nomatch (show Data.seq vs.toArray _ = Data.fields #[] from congrArg Obj.data (Option.some.inj q))
  have core : ∀ H : Hp, (∀ p ∈ ms, H p.2.1 = some (.tbl #[])) → (∀ b, H b = none ∨ b ∈ ms.map (·.2.1) ∨ ∃ o xs, H b = some (.frz o (.lst xs))) → ((∃ o, H a = some (.frz o (.lst (ns.map V.int)))) ∨ SqC K a (ns.map V.int)) → HOk P w H s₁.heap → (∀ b, H b ≠ none → b = a ∨ b ∈ ms.map (·.2.1)) → (H a ≠ none → K.lookup a = none) →
      codeAny (model P w) callerA (.call (.ref fa) ⟨[.ref a], []⟩) (fun r s' =>
          r = .ok (.ret (.bool true)) ∧ OldK s₁.heap s'.heap ∧ s'.os = s₁.os ∧ AllBare s'.gens) s₁ := by
    intro H hH hO hS hok hA hK
    have free : ∀ {b : Addr} {o : Obj}, s₁.heap.get? b = some o → (∀ vs n, o.data ≠ .seq vs n) → o.data ≠ .fields #[] → H b = none := fun {b o} e h1 h2 => by
      cases q : H b with
      | none => rfl
      | some u =>
        rcases hA b (by rw [q]; exact nofun) with e' | e'
        · rw [e', ha] at e
          cases e
          exact absurd rfl (h1 _ _)
        · rw [at_T b e'] at e
          cases e
          exact absurd rfl h2
    have nsK : ∀ {b : Addr} {m : Str → Option Value}, s₁.heap.Ns b m → (hidT s₁.heap H).Ns b m := fun {b m} ⟨o, es, ep, e, d, r⟩ => ⟨o, es, ep, hidT_get e (free e (fun _ _ z => by rw [d] at z; cases z) fun z => by rw [d] at z; cases z), d, r⟩
    have hKb : K.In (hidT s₁.heap H) := fun b o e => hidT_get (KX b o e) (by
      cases q : H b with
      | none => rfl
      | some u =>
        rcases hA b (by rw [q]; exact nofun) with e' | e'
        · rw [e'] at e q
          rw [hK (by rw [q]; exact nofun)] at e
          cases e
        · obtain ⟨p, hp, ep⟩ :=
              List.mem_map.mp e'
          rw [← ep, nT p hp] at e
          cases e)
    obtain ⟨mc, l1, l2⟩ := hlim
    have hM : Mod K mg (hidT s₁.heap H) := ⟨hKb, nsK hns, ⟨mb, nsK hb, hbb⟩, mc, nsK l1, l2⟩
    have notG : ∀ {b : Addr} {o : Obj}, s₁.heap.get? b = some o → (∀ es ep, o.data ≠ .dict es ep) → b ≠ mainGlobals := fun {b o} e h z => by
      obtain ⟨o', es, ep, e', d, _⟩ := hns
      rw [z, e'] at e
      cases e
      exact h es ep d
    have TB : ∀ p ∈ ms, TabB (hidT s₁.heap H) mg p.1 p.2.1 := fun p hp => by
      refine ⟨?_, ?_, fun z => notG (hT p hp) nofun z.symm⟩
      · obtain ⟨o, us, file, tf, flags, tg, inF, text, tt, e1, r1, r2, r3, r⟩ := Cd p hp
        refine ⟨o, us, file, tf, flags, tg, inF, text, tt, hidT_get e1 (free e1 (fun _ _ z => by rw [r2] at z; cases z) fun z => ?_), r1, r2, r3, r⟩
        rw [r2] at z
        cases z
        simp at r3
      · obtain ⟨bm, ob, b1, b2, b3, b4, b5, b6⟩ :=
            hbm
        refine ⟨bm, ob, b1, b2, notG b3 (fun es ep z => by rw [b6] at z; cases z), fun q => ?_, hidT_get b3 (free b3 (fun _ _ z => by rw [b6] at z; cases z) fun z => by rw [b6] at z; cases z), b4, b5, b6⟩
        rw [q, hT p hp] at b3
        cases b3
        cases b6
    have e0 : Env0 P w K mg (hidT s₁.heap H) callerA [] s₁ H := ⟨rfl, hM, fun b o e => of_hidT e, Nat.le_of_eq (hidT_size _ _), trivial, fun b z => absurd z List.not_mem_nil, hok, .of_eq hg⟩
    obtain ⟨p0, r0, rfl⟩ : ∃ p0 r0, ms = p0 :: r0 := by
      cases ms with
      | nil => exact absurd rfl ne
      | cons p0 r0 => exact ⟨p0, r0, rfl⟩
    have rsT : RS K (W1 K H p0.2.1 (tabT (p0 :: r0))) := rs1 ⟨_, List.mem_cons_self, rfl⟩ fun q hq => by
      obtain ⟨p, hp, rfl⟩ :=
          List.mem_map.mp hq
      exact hH p hp
    have fz : FzL (W1 K H p0.2.1 (tabT (p0 :: r0))) a (ns.map V.int) := by
      rcases hS with ⟨o, h⟩ | h
      · exact .inl ⟨o, h, fun z => a_T (by rw [← live1 z]; exact List.mem_cons_self)⟩
      · exact .inr h
    refine codeAny_mono (G _ hKb (nsK hns) TB callerA [] s₁ H [.ref a] [.ref a] (fun v _ => v = .bl true) (fun _ _ _ => False) rfl hr e0 (.cons rfl .nil) rfl
      ⟨W1 K H p0.2.1 (tabT (p0 :: r0)), [.frz (ns.map D.int)], fun d _ => d = .bl true, fun _ _ _ => False, rfl, rsT, .cons (.frz fz (RDs.ints ns)) .nil, fun W' v d _ _ r e => ?_, fun _ _ _ _ _ _ _ _ _ _ z => z.elim, hF ns hl⟩) fun r s' h => ?_
    · subst e
      cases r
      rfl
    · cases r with
      | error e =>
        obtain ⟨_, _, _, _, _, _, _, _, _, _, _, _, z⟩ :=
            h
        exact z.elim
      | ok fl =>
        cases fl with
        | ret u =>
          obtain ⟨v, H', os, bare, un, hok', r', q⟩ :=
              h
          have q' : v = .bl true := q
          subst q'
          have eu : u = Value.bool true := r'
          have old : ∀ b o, b ∉ (p0 :: r0).map (·.2.1) → s₁.heap.get? b = some o → s'.heap.get? b = some o := fun b o nb e => by
            cases q : H b with
            | none => exact un.keep b o e q (fun z => absurd z List.not_mem_nil) (fun z => absurd z List.not_mem_nil)
            | some u =>
              rcases hO b with z | z | ⟨ob,
                  xs, z⟩
              · rw [q] at z; cases z
              · exact absurd z nb
              · have e1 := (hok b _ z).1
                have e2 := (hok' b _ (un.frzs b ob _ z)).1
                rw [e] at e1
                cases e1
                exact e2
          have more : ∀ p ∈ p0 :: r0, ∃ xs : Array Value, s'.heap.get? p.2.1 = some { cls := .none, data := .fields xs } := fun p hp => by
            obtain ⟨xs, z⟩ := un.tbls p.2.1 #[] (hH p hp)
            exact ⟨_, hok' p.2.1 _ z⟩
          refine ⟨by rw [eu], ⟨fun b o e => ?_, fun b o e => ?_⟩, os, bare⟩
          · by_cases hb : b ∈ (p0 :: r0).map (·.2.1)
            · obtain ⟨p, hp, ep⟩ :=
                  List.mem_map.mp hb
              obtain ⟨xs, hm⟩ := more p hp
              rw [← ep] at e ⊢
              rw [hT p hp] at e
              cases e
              exact .inr (.inl ⟨((Cd p hp).tab (hT p hp)).isCodeTable, rfl, #[], xs, rfl, by rw [Array.empty_append]; exact hm⟩)
            · exact .inl (old b o hb e)
          · by_cases hb : b ∈ (p0 :: r0).map (·.2.1)
            · obtain ⟨p, hp, ep⟩ :=
                  List.mem_map.mp hb
              obtain ⟨xs, hm⟩ := more p hp
              rw [← ep]
              exact ⟨_, hm⟩
            · exact ⟨o, old b o hb e⟩
        | _ => exact False.elim h
  have memT : ∀ p ∈ ms, p.2.1 ∈ ms.map (·.2.1) := fun p hp => List.mem_map.mpr ⟨p, hp, rfl⟩
  cases hk : K.lookup a with
  | some o =>
    have e := KX a o hk
    rw [ha] at e
    cases e
    refine core (fun b => if b ∈ ms.map (·.2.1) then some (.tbl #[]) else none) (fun p hp => if_pos (memT p hp)) (fun b => ?_) (.inr ⟨_, vs.toArray, _, hk, rfl, rfl, rfl, by rw [List.size_toArray, lenV]; exact big, by simpa using rv⟩) (fun b u z => ?_) (fun b z => ?_) fun z => absurd (show (if a ∈ ms.map (·.2.1) then some (HO.tbl #[]) else none) = none from if_neg a_T) z
    · by_cases hb : b ∈ ms.map (·.2.1)
      · exact .inr (.inl hb)
      · exact .inl (if_neg hb)
    · by_cases hb : b ∈ ms.map (·.2.1)
      · cases (if_pos hb).symm.trans z
        exact at_T b hb
      · exact nomatch (if_neg hb).symm.trans z
    · by_cases hb : b ∈ ms.map (·.2.1)
      · exact .inr hb
      · exact absurd (if_neg hb) z
  | none =>
    refine core (fun b => if b = a then some (.frz { cls := .type "list", data := .seq vs.toArray } (.lst (ns.map V.int))) else if b ∈ ms.map (·.2.1) then some (.tbl #[]) else none) (fun p hp => ?_) (fun b => ?_) (.inl ⟨_, if_pos rfl⟩) (fun b u z => ?_) (fun b z => ?_) fun _ => hk
    · exact (if_neg fun e => a_T (by rw [← e]; exact memT p hp)).trans (if_pos (memT p hp))
    · by_cases hb : b = a
      · exact .inr (.inr ⟨_,
            _, if_pos hb⟩)
      · by_cases hb2 : b ∈ ms.map (·.2.1)
        · exact .inr (.inl hb2)
        · exact .inl ((if_neg
              hb).trans (if_neg hb2))
    · by_cases hb : b = a
      · cases (if_pos hb).symm.trans z
        subst hb
        exact ⟨ha, by rw [List.length_map]; exact big, vs, _, rv, ha⟩
      · have z1 :=
            (if_neg hb).symm.trans z
        by_cases hb2 : b ∈ ms.map (·.2.1)
        · cases (if_pos hb2).symm.trans z1
          exact at_T b hb2
        · exact nomatch (if_neg hb2).symm.trans z1
    · by_cases hb : b = a
      · exact .inl hb
      · by_cases hb2 : b ∈ ms.map (·.2.1)
        · exact .inr hb2
        · exact absurd ((if_neg hb).trans (if_neg hb2))
              z
/-- what is known of a law with lambdas at its start; ts: the tables that the head tells of -/
def LawAtG (l : PySem.W.OpenLaw) (ts : List Addr) (w : World) (K : PySem.W.Frag) (k : Nat) (mg : Str → Option Value) (fa : Addr) : Prop :=
  ∃ (ms : Mks) (F : MF), ms ≠ [] ∧ (∀ p ∈ ms, K.lookup p.2.1 = none) ∧ (∀ p ∈ ms, p.2.1 ∈ ts ∧ PySem.W.codeHdIn K p.1 p.2.1 = true) ∧ LawIsT (tabT ms) F ∧
    ∀ base : Heap, K.In base → base.Ns mainGlobals mg → (∀ p ∈ ms, TabB base mg p.1 p.2.1) → FnG l.prog w K mg base k fa 1 [] F
theorem walkGT {l : PySem.W.OpenLaw} (k : Nat) {ts : List Addr} {q : Program} {loose : List Str} {XP : (Str → Option Value) → Heap → Prop} {YP : World → Heap → Prop} {d : DefRec} {K : Params → PySem.W.Frag}
    (hn : l.most = some 63) (hdf : d.params.defaults = []) (hr : Room k callerA) (hY : ∀ (w : World) (h : Heap), YP w h → (K w.params).In h ∧ ∀ P ∈ ts, h.get? P = some (PySem.W.tabObj #[]))
    (G : ∀ (w : World) (mg : Str → Option Value) (fa : Addr) (h : Heap), (K w.params).In h → h.Ns mainGlobals mg → mg d.name = some (.ref fa) → LawAtG l ts w (K w.params) k mg fa) :
    PySem.W.WalkO q loose XP YP l.row.toRowW d [] (fun f vs =>
        PySem.call f vs) := by
  refine Att.attach_call hn hdf fun w s₀ s₁ mg mb fa o pm cd doc a vs ns T Y ho hd hcd hmg hobj hints hlen hg => ?_
  obtain ⟨KX, tabs⟩ := hY w _ Y
  obtain ⟨ms, F, m1, m2, m3, m4, m5⟩ := G w mg fa _ KX T.T.g hmg
  exact law_callGT KX T.T.g T.T.b T.T.builtins T.T.nolimit hg (fun p hp => tabs _ (m3 p hp).1) m2 (fun p hp => PySem.W.codeHd_of_K KX (m3 p hp).2) m1 T.T.bmain hobj hints hlen hr m5 m4
end Mir
end

section
set_option Elab.async false
set_option linter.all false
set_option maxRecDepth 100000
set_option maxHeartbeats 2001000
/-! What the generator asks of classes, makers of lambdas, and a def that tries a lambda. -/
namespace Mir
open L2 LamX PyProof.Rows PySem PySem.Spec
/-- an error class, as the written part has it -/
structure ClsF (K : PySem.W.Frag) (C : Addr) : Prop where
  sub : PySem.W.subIn K (.ref C) (.type "BaseException") = some true
  hd : PySem.W.hasDictIn
      K C = true
  ty : PySem.W.typeIn K (.ref C) = some (.type "type")
theorem exm2 {K : PySem.W.Frag} {C1 C2 : Addr} {cls : Value} {b1 b2 : Bool} (h1 : ClsF K C1) (h2 : ClsF K C2) (s1 : PySem.W.subIn K cls (.ref C1) = some b1) (s2 : PySem.W.subIn K cls (.ref C2) = some b2) : PySem.W.exmAny K cls [.ref C1, .ref C2] = some (b1 || (b2 || false)) := by
  unfold PySem.W.exmAny PySem.W.exmAny PySem.W.exmAny
  rw [PySem.W.exm_ref h1.sub h1.hd h1.ty s1, PySem.W.exm_ref h2.sub h2.hd h2.ty s2]
theorem kit_ref {K : PySem.W.Frag} {C C' : Addr} {b : Bool} (h : ClsF K C') (s : PySem.W.subIn K (.ref C) (.ref C') = some b) (e : C = C' → b = true) : PySem.W.kitOne K (.ref C) (.ref C') = some b := by
  unfold PySem.W.kitOne
  by_cases hc : C = C'
  · rw [if_pos (by rw [hc]; exact beq_self_eq_true _), e hc]
  · rw [if_neg
        (by simpa using hc)]
    unfold PySem.W.kitCls
    dsimp only
    obtain ⟨cd, hcd, _⟩ := PySem.W.any_some h.hd
    rw [if_pos (by rw [hcd, h.ty]; rfl)]
    exact s
theorem kit_bi {K : PySem.W.Frag} {C : Addr} {T : String} {b : Bool} (s : PySem.W.subIn K (.ref C) (.type T) = some b) (m : PySem.W.kitMeta T = true) : PySem.W.kitOne K (.ref C) (.type T) = some b := by
  unfold PySem.W.kitOne
  rw [if_neg (by simp)]
  unfold PySem.W.kitCls
  dsimp only
  rw [if_pos m]
  exact s
theorem tab_mk {K : PySem.W.Frag} {x : Str} {f c P : Addr} {oc : Value} {od : Option Addr} {fd : FuncData} {sl sl' : Array (Option Value)} {oc' : Value} {od' : Option Addr} {vs : Array Value} (a : PySem.W.nsIn K mainGlobals x = some (some (.ref f))) (l : K.lookup f = some ⟨oc, od, .func fd, sl⟩) (e : fd.code = .ref c)
    (lc : K.lookup c = some ⟨oc', od', .fields vs, sl'⟩) (v : (vs[11]? : Option Value) = some (.ref P)) : PySem.W.tabIn K x = some (c, P) := by
  unfold PySem.W.tabIn
  rw [a]
  dsimp only
  rw [l]
  dsimp only
  rw [e]
  dsimp only
  rw [lc]
  dsimp only
  rw [v]
section
variable {P : Program} {w : World} {K :
    PySem.W.Frag} {mg : Str → Option Value} {base : Heap}
/-- every body of a maker whose code object stands at c -/
def BodyOkC (P : Program) (w : World) (K : PySem.W.Frag) (mg : Str → Option Value) (base : Heap) (N : List Str) (qual : Str) (st : Stmt) (f c : Addr) (k : Nat) (mb : MS) : Prop :=
  ∀ (A : Around) (outer : List PySem.Env) (s : Shared) (H : Hp) (E : XK), (BCx P w K mg base N qual st f (.ref c) A outer s H E).A.guards = some [] → Room k (BCx P w K mg base N qual st f (.ref c) A outer s H E).A → JB (BCx P w K mg base N qual st f (.ref c) A outer s H E) (defBody st) mb
/-- as Fun, the code object told -/
structure FunC (K : PySem.W.Frag) (x : Str) (st : Stmt) (f c : Addr) : Prop where
  ex : ∃ (oc : Value) (od : Option Addr) (kV doc pm : Value) (an : Option Addr) (ct : Value) (osl : Array (Option Value)), K.lookup f = some ⟨oc, od, .func (PySem.W.fnOf x x (defArgs st) (defBody st) (defScope st) .none kV doc pm an (.ref c) ct), osl⟩ ∧ PySem.W.codeIn K (.ref c) x = true
  kp : PySem.W.keepIn K (.ref f)
      = true
theorem fnGC {x : Str} {st : Stmt} {f c : Addr} {N ps : List Str} {k n m : Nat} {mb : MS} (F : FunC K x st f c) (S : FnScope N ps (defScope st)) (hn : ps.length = n) (hc : N.length = n + m)
    (hb : ∀ (kV doc pm : Value) (an : Option Addr) (cdv ct : Value) (us : List Value), us.length = ps.length → bindArgs (PySem.W.fnOf x x (defArgs st) (defBody st) (defScope st) .none kV doc pm an cdv ct) ⟨us, []⟩ = pure (ps.zip us))
    (B : BodyOkC P w K mg base N x st f c k mb) : FnG P w K mg base (k + 1) f n [] (mFn n m mb) := by
  obtain ⟨oc, od, kV, doc, pm, an, ct, osl, lk, hcd⟩ := F.ex
  rintro A outer s H us vs Q E hg hr e0 rv hl ⟨W, ds, Qm, Xm, rfl, rs, rd, kq, kx, z⟩
  have hl' : us.length = n := by simpa using hl
  rw [List.take_of_length_le (Nat.le_of_eq hl'), List.zip_nil_left]
  refine StX.run_bnd lk hcd S hr e0 (G := fun xs H2 => xs = vs ∧ H2 = W.H) (fun A' Ex Q' h => ?_) fun s2 H2 xs ⟨ex, eH⟩ hr' => ?_
  · rw [hb kV doc pm an (.ref c) ct us (by rw [hl', hn])]
    exact wpAny_pure (h s W.H vs us e0 Un.refl rfl (fun _ _ z => z) rv (by rw [rv.length, hl', hn]) ⟨rfl, rfl⟩)
  · subst ex eH
    exact ⟨_, (B A outer s2 W.H E hg hr').pb _ (takes_of rfl rfl rfl rfl), body_of rs rd hc kq kx z⟩
end
section
variable {X : Cx}
/-- the context of the def that tries -/
abbrev TCx (X : Cx) (Ng : List Str) (x : Str) (st : Stmt) (g : Addr) (cdv : Value) (s : Shared) (H : Hp) : Cx := (cxOf C8.CX0 X.prog X.w X.K X.mg X.base Ng x (defScope st) g cdv X.A X.stack s H C8.E0).nox
/-- the rest of such a def, whatever its code object -/
def RestOk (X : Cx) (Ng : List Str) (x : Str) (st : Stmt) (g : Addr) (rest : List Stmt) (mrest : MS) : Prop := ∀ (cdv : Value) (s : Shared) (H : Hp), JB (TCx X Ng x st g cdv s H) rest mrest
theorem je_lamF {K : PySem.W.Frag} {T : List (Addr × Str)} {x a n m x1 x2 : Str} {g c P : Addr} {k : Nat} {st : Stmt} {fd : FuncData} {Ng : List Str} {me : Mr D} {mrest : MS} {rest : List Stmt} {c1 c2 : Value} {i j jn kt : Nat} {q00 q0 qn p1 p2 p3 tp pa pb q1 q2 q3 tpos tpos' : Pos} {params : Arguments} {body : Expr} {scope : Scope} {p lpos pos : Pos}
    (F : Fun K x x st g fd) (eK : X.K = K) (hm : X.mg x = some (.ref g)) (hgd : X.A.guards = some []) (hr : Room (k + 2) X.A) (Sg : FnScope Ng [a] (defScope st))
    (hbg : defBody st = .Assign [.Name m q0] (.Constant .none jn qn) q00 :: .Try [.Expr (.Call (.Name a p1) [] [] p2) p3] [.ExceptHandler (some (.Tuple [.Name x1 pa, .Name x2 pb] kt tp)) (some n) [.Assign [.Name m q1] (.Name n q2) q3] tpos'] [] [] tpos :: rest)
    (hb : ∀ (kV doc pm : Value) (an : Option Addr) (cdv ct : Value) (us : List Value), us.length = 1 → bindArgs (PySem.W.fnOf x x (defArgs st) (defBody st) (defScope st) .none kV doc pm an cdv ct) ⟨us, []⟩ = pure ([a].zip us))
    (hN : Ng.Nodup) (ha : Ng[0]? = some a) (hi : Ng[i]? = some n) (hj : Ng[j]? = some m) (hij : i ≠ j) (hj0 : j ≠ 0) (hva : Vis (defScope st) a) (hln : (defScope st).names.lookup n = some .local) (hlm : L2.Loc (defScope st) m)
    (g1 : (defScope st).names.lookup x1 = some .globalImplicit) (g2 : (defScope st).names.lookup x2 = some .globalImplicit) (m1 : X.mg x1 = some c1) (m2 : X.mg x2 = some c2) (b1 : (x1 == ("__debug__" : Str)) = false) (b2 : (x2 == ("__debug__" : Str)) = false)
    (hJ : RestOk X Ng x st g rest mrest) (TB : TabB X.base X.mg c P) (hcode : X.env.code = .ref c) (hmT : (P, X.env.qual ++ "<lambda>") ∈ T) (hu : ∀ p ∈ T, p.1 = P → p.2 = X.env.qual ++ "<lambda>") (L : LamS X.env.scope scope)
    (hbody : ∀ (A : Around) (outer : List PySem.Env) (s : Shared) (H : Hp) (E : XK) (f c' : Addr), (lamCx X A outer s H E scope f c').A.guards = some [] → Room k (lamCx X A outer s H E scope f c').A → JE (lamCx X A outer s H E scope f c') body me)
    (sw1 : ∀ (cdv : Value) (s : Shared) (H : Hp), swapsWith (.Name n q2) (some (.Name m q1)) q3.line (TCx X Ng x st g cdv s H).env = pure false := by intros; rfl)
    (sw2 : ∀ (cdv : Value) (s : Shared) (H : Hp), swapsWith (.Call (.Name a p1) [] [] p2) none p3.line (TCx X Ng x st g cdv s H).env = pure false := by intros; rfl)
    (sw3 : ∀ (cdv : Value) (s : Shared) (H : Hp), swapsWith (.Constant .none jn qn) (some (.Name m q0)) q00.line (TCx X Ng x st g cdv s H).env = pure false := by intros; rfl)
    (hg : Gl X x := by rfl) (hdef : defaultsOf params X.env = ([], []) := by rfl)
    (hbind : ∀ (q : Str) (cl : List (Str × Addr)) (pm cv ctv : Value), bindArgs (PySem.W.kla_fn "<lambda>" q params body scope cl pm cv ctv) ⟨[], []⟩ = pure [] := by intros; rfl)
    (hdb : (x == ("__debug__" : Str)) = false := by decide) (hd : (a == ("__debug__" : Str)) = false := by decide) (hcd : (a == ("__classdict__" : Str)) = false := by decide) (hdn : (n == ("__debug__" : Str)) = false := by decide) (hcn : (n == ("__classdict__" : Str)) = false := by decide) :
    JE X (.Call (.Name x p) [.Lambda params body scope lpos] [] pos) (mLam T Ng.length j (fun C => PySem.W.exmAny X.K (.ref C) [c1, c2]) mrest me) := by
  subst eK
  obtain ⟨oc, od, kV, doc, pm, an, cdv, ct, osl, rfl, lk, hcv⟩ := F.ex
  have hB : L2.Binds X.K (PySem.W.fnOf x x (defArgs st) (defBody st) (defScope st) .none kV doc pm an cdv ct) [a] [] := Binds.all fun us hl => hb kV doc pm an cdv ct us hl
  rw [hbg] at lk hB
  refine je_lam (i := i) (k := k) hg hm F.kp hgd lk hcv hB Sg ha hva (gives_keep hN ha hi hj hij hj0 hln hlm (fun s H => ⟨g1, b1, .inl m1⟩) (fun s H => ⟨g2, b2, .inl m2⟩) hdn hcn (fun s H => sw1 cdv s H) (fun s H => sw2 cdv s H) (fun s H => sw3 cdv s H) fun s H => hJ cdv s H) TB hcode hmT hu hr L hdef hbind hbody hdb hd hcd
end
end Mir
end

section
set_option Elab.async false
set_option linter.all false
set_option maxRecDepth 100000
set_option maxHeartbeats 401000
/-! Steps of operations, told by the shape of the data; a macro that takes them. -/
namespace Mir
open PySem L2
section
variable {S : Store} {k : D → Prop} {Q : D → Store → Prop} {X : XC} {ρ : Mir.Env} {M : ME}
theorem sub_ii {i j : Int} (h : k (.int (i - j))) : fSub (.int i) (.int j) S k := h
theorem add_ii {i j : Int} (h : k (.int (i + j))) : fAdd (.int i) (.int j) S k := h
theorem add_ll {xs ys : List D} (hs : xs.length + ys.length ≤ 100000) (h : k (.lst (xs ++ ys))) : fAdd (.lst xs) (.lst ys) S k := ⟨hs, h⟩
theorem add_tt {xs ys : List D} (hs : xs.length + ys.length ≤ 100000) (h : k (.tup (xs ++ ys))) : fAdd (.tup xs) (.tup ys) S k := ⟨hs, h⟩
theorem add_ss {x y : Str} (hs : x.length + y.length ≤ sizeLine) (h : k (.str (x ++ y))) : fAdd (.str x) (.str y) S k := ⟨hs, h⟩
theorem neg_i {i : Int} (h : k (.int (-i))) : fNeg (.int i) S k := h
theorem lt_ii {i j : Int} (h : k (.bl (decide (i < j)))) : fLt (.int i) (.int j) S k := h
theorem gt_ii {i j : Int} (h : k (.bl (decide (j < i)))) : fGt (.int i) (.int j) S k := h
theorem ge_ii {i j : Int} (h : k (.bl (decide (j ≤ i)))) : fGe (.int i) (.int j) S k := h
theorem le_ii {i j : Int} (h : k (.bl (decide (i ≤ j)))) : fLeM (.int i) (.int j) S k := h
theorem eq_ii {i j : Int} (h : k (.bl (decide (i = j)))) : fEq (.int i) (.int j) S k := by
  simp only [fEq, fEqB, Bool.false_xor]; exact h
theorem ne_ii {i j : Int} (h : k (.bl (!decide (i = j)))) : fNe (.int i) (.int j) S k := by
  simp only [fNe, fEqB, Bool.true_xor]; exact h
theorem eq_ss {i j : Str} (h : k (.bl (decide (i = j)))) : fEq (.str i) (.str j) S k := by
  simp only [fEq, fEqB, Bool.false_xor]; exact h
theorem ne_ss {i j : Str} (h : k (.bl (!decide (i = j)))) : fNe (.str i) (.str j) S k := by
  simp only [fNe, fEqB, Bool.true_xor]; exact h
theorem eq_bb {i j : Bool} (h : k (.bl (decide (i = j)))) : fEq (.bl i) (.bl j) S k := by
  simp only [fEq, fEqB, Bool.false_xor]; exact h
theorem ne_bb {i j : Bool} (h : k (.bl (!decide (i = j)))) : fNe (.bl i) (.bl j) S k := by
  simp only [fNe, fEqB, Bool.true_xor]; exact h
theorem is_n {d : D} (h : k (.bl (isN d))) : fIs d .non S k := by
  simp only [fIs, fIsB, Bool.false_xor]; exact h
theorem isnot_n {d : D} (h : k (.bl (!isN d))) : fIsNot d .non S k := by
  simp only [fIsNot, fIsB, Bool.true_xor]; exact h
theorem is_b {i j : Bool} (h : k (.bl (decide (i = j)))) : fIs (.bl i) (.bl j) S k := by
  simp only [fIs, fIsB, Bool.false_xor]; exact h
theorem isnot_b {i j : Bool} (h : k (.bl (!decide (i = j)))) : fIsNot (.bl i) (.bl j) S k := by
  simp only [fIsNot, fIsB, Bool.true_xor]; exact h
theorem ix_q {d e : D} {xs : List D} {i : Int} (e1 : asQ S d = some xs) (e2 : atI xs i = some e) (h : k e) : fIx d (.int i) S k := by
  unfold fIx
  dsimp only
  rw [e1]
  dsimp only
  rw [e2]
  exact h
theorem ix_l {xs : List D} {i : Int} {d : D} (e : atI xs i = some d) (h : k d) : fIx (.lst xs) (.int i) S k := ix_q rfl e h
theorem ix_t {xs : List D} {i : Int} {d : D} (e : atI xs i = some d) (h : k d) : fIx (.tup xs) (.int i) S k := ix_q rfl e h
theorem asL_r {l : Nat} {xs : List D} (e : S l = some (.lst xs)) : asL S (.ref l) = some xs := by
  simp only [asL, e, Option.bind_some]
theorem asQ_r {l : Nat} {xs : List D} (e : S l = some (.lst xs)) : asQ S (.ref l) = some xs := asL_r e
theorem ix_r {l : Nat} {xs : List D} {i : Int} {d : D} (e1 : S l = some (.lst xs)) (e : atI xs i = some d) (h : k d) : fIx (.ref l) (.int i) S k := ix_q (asQ_r e1) e h
theorem len_q {d : D} {xs : List D} (e : asQ S d = some xs) (h : k (.int xs.length)) : fLen [d] S k := by
  unfold fLen
  dsimp only
  rw [e]
  exact h
theorem len_l {xs : List D} (h : k (.int xs.length)) : fLen [.lst xs] S k := h
theorem len_t {xs : List D} (h : k (.int xs.length)) : fLen [.tup xs] S k := h
theorem len_f {xs : List D} (h : k (.int xs.length)) : fLen [.frz xs] S k := h
theorem len_r {l : Nat} {xs : List D} (e : S l = some (.lst xs)) (h : k (.int xs.length)) : fLen [.ref l] S k := len_q (asQ_r e) h
theorem tuple_l {xs : List D} (h : k (.tup xs)) : fTuple [.lst xs] S k := h
theorem tuple_t {xs : List D} (h : k (.tup xs)) : fTuple [.tup xs] S k := h
theorem tuple_r {l : Nat} {xs : List D} (e : S l = some (.lst xs)) (h : k (.tup xs)) : fTuple [.ref l] S k := by
  simp only [fTuple, asL_r e]
  exact h
theorem list_l {xs : List D} (h : k (.lst xs)) : fList [.lst xs] S k := h
theorem list_t {xs : List D} (h : k (.lst xs)) : fList [.tup xs] S k := h
theorem mod_ii {i j : Int} (h0 : j ≠ 0) (h : k (.int (i.fmod j))) : fMod (.int i) (.int j) S k := ⟨h0, h⟩
theorem mul_tt {xs : List D} {j : Int} (h0 : xs ≠ []) (h1 : 2 ≤ j) (h2 : j ≤ 1000) (h3 : xs.length ≤ 1000) (h : k (.tup (List.replicate j.toNat xs).flatten)) : fMul (.tup xs) (.int j) S k := ⟨h0, h1, h2, h3, h⟩
theorem mul_ll {xs : List D} {j : Int} (h1 : xs.length ≤ 1000) (h2 : -1000 ≤ j) (h3 : j ≤ 1000) (h : k (.lst (List.replicate j.toNat xs).flatten)) : fMul (.lst xs) (.int j) S k := ⟨h1, h2, h3, h⟩
theorem int_b {b : Bool} (h : k (.int (if b then 1 else 0))) : fInt1 [.bl b] S k := h
theorem int_i {i : Int} (h : k (.int i)) : fInt1 [.int i] S k := h
theorem two_ii {g : Int → Int → Int} {i j : Int} (h : k (.int (g i j))) : fTwo g [.int i, .int j] S k := h
theorem cut_tt {xs : List D} {lo hi : Option Int} (h : k (.tup (cutD xs lo hi))) : fCut (.tup xs) lo hi S k := h
theorem cut_ll {xs : List D} {lo hi : Option Int} (h : k (.lst (cutD xs lo hi))) : fCut (.lst xs) lo hi S k := h
theorem cut_upto {xs : List D} {v : Nat} (hv : v ≤ xs.length) : cutD xs none (some (v : Int)) = xs.take v := by
  unfold cutD
  rw [HT.sIx_none, HT.sIx_nat, Nat.min_eq_left hv, Nat.sub_zero, List.drop_zero]
theorem cut_behind {xs : List D} {v : Nat} (hv : v ≤ xs.length) : cutD xs (some (v : Int)) none = xs.drop v := by
  unfold cutD
  rw [HT.sIx_none, HT.sIx_nat, Nat.min_eq_left hv]
  exact List.take_of_length_le (by rw [List.length_drop]; exact Nat.le_refl _)
/-! ### words with a bool in the middle -/
theorem un_at {f : F1} {ma : Mr D} (h : ma ρ S (fun x S1 => f x S1 fun d => Q d S1) X) : mUn f ma ρ S Q X := h
theorem mif_at {t : Mr Bool} {ma mb : Mr D} (h : t ρ S (fun b S1 => if b = true then ma ρ S1 Q X else mb ρ S1 Q X) X) : mIf t ma mb ρ S Q X := h
def avK (mb : Mr D) (ρ : Mir.Env) (Q : D → Store → Prop) (X : XC) : D → Store → Prop := fun d S1 => match d with
  | .bl true => mb ρ S1 Q X
  | .bl false => Q (.bl false) S1
  | _ => False
theorem andv_at {ma mb : Mr D} (h : ma ρ S (avK mb ρ Q X) X) : mAndV ma mb ρ S Q X := h
theorem avK_t {mb : Mr D} (h : mb ρ S Q X) : avK mb ρ Q X (.bl true) S := h
theorem avK_f {mb : Mr D} (h : Q (.bl false) S) : avK mb ρ Q X (.bl false) S := h
theorem avK_b {mb : Mr D} {b : Bool} (h1 : b = true → mb ρ S Q X) (h2 : b = false → Q (.bl false) S) : avK mb ρ Q X (.bl b) S := by
  cases b
  · exact h2 rfl
  · exact h1 rfl
def ovK (mb : Mr D) (ρ : Mir.Env) (Q : D → Store → Prop) (X : XC) : D → Store → Prop := fun d S1 => match d with
  | .bl true => Q (.bl true) S1
  | .bl false => mb ρ S1 Q X
  | _ => False
theorem orv_at {ma mb : Mr D} (h : ma ρ S (ovK mb ρ Q X) X) : mOrV ma mb ρ S Q X := h
theorem ovK_t {mb : Mr D} (h : Q (.bl true) S) : ovK mb ρ Q X (.bl true) S := h
theorem ovK_f {mb : Mr D} (h : mb ρ S Q X) : ovK mb ρ Q X (.bl false) S := h
def nvK (Q : D → Store → Prop) : D → Store → Prop := fun d S1 => match d with
  | .bl b => Q (.bl (!b)) S1
  | _ => False
theorem notv_at {ma : Mr D} (h : ma ρ S (nvK Q) X) : mNotV ma ρ S Q X := h
theorem nvK_t (h : Q (.bl false) S) : nvK Q (.bl true) S := h
theorem nvK_f (h : Q (.bl true) S) : nvK Q (.bl false) S := h
theorem nvK_b {b : Bool} (h : Q (.bl (!b)) S) : nvK Q (.bl b) S := h
def chK (g : F2) (y : D) (mc : Mr D) (ρ : Mir.Env) (S2 : Store) (Q : D → Store → Prop) (X : XC) : D → Prop := fun z => match z with
  | .bl true => mc ρ S2 (fun w S3 => g y w S3 fun d => Q d S3) X
  | .bl false => Q (.bl false) S2
  | _ => False
theorem chn_at {f g : F2} {ma mb mc : Mr D} (h : ma ρ S (fun x S1 => mb ρ S1 (fun y S2 => f x y S2 (chK g y mc ρ S2 Q X)) X) X) : mChain f g ma mb mc ρ S Q X := h
theorem chK_t {g : F2} {y : D} {mc : Mr D} (h : mc ρ S (fun w S3 => g y w S3 fun d => Q d S3) X) : chK g y mc ρ S Q X (.bl true) := h
theorem chK_f {g : F2} {y : D} {mc : Mr D} (h : Q (.bl false) S) : chK g y mc ρ S Q X (.bl false) := h
theorem chK_b {g : F2} {y : D} {mc : Mr D} {b : Bool} (h1 : b = true → mc ρ S (fun w S3 => g y w S3 fun d => Q d S3) X) (h2 : b = false → Q (.bl false) S) : chK g y mc ρ S Q X (.bl b) := by
  cases b
  · exact h2 rfl
  · exact h1 rfl
theorem isi_at {t u : Ty} {b : Bool} {me : Mr D} {d : D} (h : me ρ S (fun d S1 => match tyD S1 d with
  | some u => Q (.bl (u.isi t)) S1
  | none => False) X) : mIsi t me ρ S Q X := h
def isiK (t : Ty) (Q : D → Store → Prop) : D → Store → Prop := fun d S1 => match tyD S1 d with
  | some u => Q (.bl (u.isi t)) S1
  | none => False
theorem isi_to {t : Ty} {me : Mr D} (h : me ρ S (isiK t Q) X) : mIsi t me ρ S Q X := h
theorem isiK_v {t u : Ty} {b : Bool} {d : D} (e : tyD S d = some u) (e2 : u.isi t = b) (h : Q (.bl b) S) : isiK t Q d S := by
  unfold isiK
  rw [e]
  dsimp only
  rw [e2]
  exact h
theorem slice_at {me : Mr D} {ml mu : Mr (Option Int)} (h : me ρ S (fun d S1 => ml ρ S1 (fun lo S2 => mu ρ S2 (fun hi S3 => fCut d lo hi S3 fun x => Q x S3) X) X) X) : mSlice me ml mu ρ S Q X := h
theorem nop_at {q : Option Int → Store → Prop} (h : q none S) : mNoP ρ S q X := h
def pK (q : Option Int → Store → Prop) : D → Store → Prop := fun d S1 => match d with
  | .int i => q (some i) S1
  | _ => False
theorem p_at {m : Mr D} {q : Option Int → Store → Prop} (h : m ρ S (pK q) X) : mP m ρ S q X := h
theorem pK_i {i : Int} {q : Option Int → Store → Prop} (h : q (some i) S) : pK q (.int i) S := h
/-! ### targets -/
theorem gn_at {i : Nat} {d : D} {q : Mir.Env → Store → Prop} (h : q (ρ.set i (some d)) S) : gN i d ρ S q := h
theorem gni_at {q : Mir.Env → Store → Prop} (h : q ρ S) : gNi [] ρ S q := h
theorem gco_at {g : MG} {gs : MGs} {d : D} {r : List D} {q : Mir.Env → Store → Prop} (h : g d ρ S fun ρ1 S1 => gs r ρ1 S1 q) : gCo g gs (d :: r) ρ S q := h
theorem gq_t {n : Nat} {gs : MGs} {xs : List D} {q : Mir.Env → Store → Prop} (hn : xs.length = n) (h : gs xs ρ S q) : gQ n gs (.tup xs) ρ S q := ⟨hn, h⟩
theorem gq_l {n : Nat} {gs : MGs} {xs : List D} {q : Mir.Env → Store → Prop} (hn : xs.length = n) (h : gs xs ρ S q) : gQ n gs (.lst xs) ρ S q := ⟨hn, h⟩
theorem is2_at {q : D → D → Store → Prop} {d e : D} (h : q d e S) : is2 q [d, e] S := h
theorem cpow {i j : Int} (h0 : 0 ≤ j) (h1 : j ≤ 1000000) (h2 : i.natAbs < 2 ^ 64) : CPow i j := ⟨h0, h1, h2⟩
theorem pow_ii {i j : Int} (h0 : CPow i j) (h : k (.int (i ^ j.toNat))) : fPow (.int i) (.int j) S k := ⟨h0, h⟩
/-! ### loops -/
theorem for_at {it : Mr Pk} {g : MG} {body : MS} (h : it ρ S (fun p S1 => goFor g body p.2 p.1 M ρ S1) (M.x ρ)) : mFor it g body M ρ S := h
theorem wk_at {me : Mr D} {q : Pk → Store → Prop} (h : me ρ S (fun d S1 => match walkD S1 d with
  | some p => q p S1
  | none => False) X) : mWk me ρ S q X := h
def wkK (q : Pk → Store → Prop) : D → Store → Prop := fun d S1 => match walkD S1 d with
  | some p => q p S1
  | none => False
theorem wk_to {me : Mr D} {q : Pk → Store → Prop} (h : me ρ S (wkK q) X) : mWk me ρ S q X := h
theorem wkK_t {xs : List D} {q : Pk → Store → Prop} (h : q (xs, fun _ => True) S) : wkK q (.tup xs) S := h
theorem wkK_l {xs : List D} {q : Pk → Store → Prop} (h : q (xs, fun _ => True) S) : wkK q (.lst xs) S := h
theorem wkK_r {l : Nat} {xs : List D} {q : Pk → Store → Prop} (e : S l = some (.lst xs)) (h : q (xs, fun T => T l = some (.lst xs)) S) : wkK q (.ref l) S := by
  simp only [wkK, walkD, e, Option.bind_some]
  exact h
def enK (q : Pk → Store → Prop) : List D → Store → Prop := fun ds S1 => match ds with
  | [d] => match walkD S1 d with
    | some p => q (enD p.1, p.2) S1
    | none => False
  | _ => False
theorem enum_at {ms : Mr (List D)} {q : Pk → Store → Prop} (h : ms ρ S (enK q) X) : mEnum ms ρ S q X := h
theorem enK_t {xs : List D} {q : Pk → Store → Prop} (h : q (enD xs, fun _ => True) S) : enK q [.tup xs] S := h
theorem enK_l {xs : List D} {q : Pk → Store → Prop} (h : q (enD xs, fun _ => True) S) : enK q [.lst xs] S := h
/-! ### equal data -/
theorem shp_tup {xs : List PyData} : True := trivial
theorem eq_py {a b : D} {p q : PyData} (ha : pyS S a = some p) (hb : pyS S b = some q) (sa : SeqAt.shaped p = true) (sb : SeqAt.shaped q = true) (hn : ∀ n, fEqB n a b S k = (match pyS S a, pyS S b with
    | some p, some q => SeqAt.shaped p = true ∧ SeqAt.shaped q = true ∧ k (.bl (n ^^ PyData.eqv p q))
    | _, _ => False)) (h : k (.bl (PyData.eqv p q))) : fEq a b S k := by
  show fEqB false a b S k
  rw [hn false, ha, hb]
  refine ⟨sa, sb, ?_⟩
  rw [Bool.false_xor]
  exact h
theorem ne_py {a b : D} {p q : PyData} (ha : pyS S a = some p) (hb : pyS S b = some q) (sa : SeqAt.shaped p = true) (sb : SeqAt.shaped q = true) (hn : ∀ n, fEqB n a b S k = (match pyS S a, pyS S b with
    | some p, some q => SeqAt.shaped p = true ∧ SeqAt.shaped q = true ∧ k (.bl (n ^^ PyData.eqv p q))
    | _, _ => False)) (h : k (.bl (!PyData.eqv p q))) : fNe a b S k := by
  show fEqB true a b S k
  rw [hn true, ha, hb]
  refine ⟨sa, sb, ?_⟩
  rw [Bool.true_xor]
  exact h
/-- two lists, two tuples, a living list -/
theorem eq_tt {xs ys : List D} {p q : PyData} (ha : py (.tup xs) = some p) (hb : py (.tup ys) = some q) (sa : SeqAt.shaped p = true) (sb : SeqAt.shaped q = true) (h : k (.bl (PyData.eqv p q))) : fEq (.tup xs) (.tup ys) S k := eq_py ha hb sa sb (fun _ => rfl) h
theorem eq_ll {xs ys : List D} {p q : PyData} (ha : py (.lst xs) = some p) (hb : py (.lst ys) = some q) (sa : SeqAt.shaped p = true) (sb : SeqAt.shaped q = true) (h : k (.bl (PyData.eqv p q))) : fEq (.lst xs) (.lst ys) S k := eq_py ha hb sa sb (fun _ => rfl) h
theorem ne_ll {xs ys : List D} {p q : PyData} (ha : py (.lst xs) = some p) (hb : py (.lst ys) = some q) (sa : SeqAt.shaped p = true) (sb : SeqAt.shaped q = true) (h : k (.bl (!PyData.eqv p q))) : fNe (.lst xs) (.lst ys) S k := ne_py ha hb sa sb (fun _ => rfl) h
theorem ne_tt {xs ys : List D} {p q : PyData} (ha : py (.tup xs) = some p) (hb : py (.tup ys) = some q) (sa : SeqAt.shaped p = true) (sb : SeqAt.shaped q = true) (h : k (.bl (!PyData.eqv p q))) : fNe (.tup xs) (.tup ys) S k := ne_py ha hb sa sb (fun _ => rfl) h
theorem py_ref {l : Nat} {xs : List D} {ps : List PyData} (e : S l = some (.lst xs)) (hp : pys xs = some ps) : pyS S (.ref l) = some (.list ps) := by
  unfold pyS
  dsimp only
  rw [asL_r e, Option.bind_some, hp]
  rfl
theorem eq_rl {l : Nat} {xs ys : List D} {ps : List PyData} {q : PyData} (e : S l = some (.lst xs)) (ha : pys xs = some ps) (hb : py (.lst ys) = some q) (sa : SeqAt.shaped (.list ps) = true) (sb : SeqAt.shaped q = true) (h : k (.bl (PyData.eqv (.list ps) q))) : fEq (.ref l) (.lst ys) S k := eq_py (py_ref e ha) hb sa sb (fun _ => rfl) h
theorem ne_rl {l : Nat} {xs ys : List D} {ps : List PyData} {q : PyData} (e : S l = some (.lst xs)) (ha : pys xs = some ps) (hb : py (.lst ys) = some q) (sa : SeqAt.shaped (.list ps) = true) (sb : SeqAt.shaped q = true) (h : k (.bl (!PyData.eqv (.list ps) q))) : fNe (.ref l) (.lst ys) S k := ne_py (py_ref e ha) hb sa sb (fun _ => rfl) h
/-- a living list grows -/
theorem meth_app {mo : Mr D} {ms : Mr (List D)} {l : Nat} (h : mo ρ S (fun o S1 => match lstS S1 o with
  | none => False
  | some _ => ms ρ S1 (fun ds S2 => match lstS S2 o with
    | none => False
    | some (l, xs) => match gAppend xs ds with
      | none => False
      | some (d, ys) => small ys.length ∧ Q d (put S2 l (.lst ys))) X) X) : mMeth gAppend mo ms ρ S Q X := h
theorem app_var {i l : Nat} {xs : List D} {me : Mr D} (hi : ρ[i]? = some (some (.ref l))) (e : S l = some (.lst xs)) (h : me ρ S (fun d S2 => ∃ ys : List D, S2 l = some (.lst ys) ∧ ys.length < 100000 ∧ Q .non (put S2 l (.lst (ys ++ [d])))) X) : mMeth gAppend (mVar i) (mCons me mNil) ρ S Q X := by
  have e1 : lstS S (.ref l) = some (l, xs) := by
    simp only [lstS, e, Option.bind_some]
  refine var_at hi ?_
  rw [e1]
  refine cons_at ?_
  have fx : (fun (d : D) (S1 : Store) => mNil ρ S1 (fun ds S2 => (fun ds S2 => match lstS S2 (.ref l) with
    | none => False
    | some (l, xs) => match gAppend xs ds with
      | none => False
      | some (d, ys) => small ys.length ∧ Q d (put S2 l (.lst ys))) (d :: ds) S2) X) = fun d S2 => ∃ ys : List D, S2 l = some (.lst ys) ∧ ys.length < 100000 ∧ Q .non (put S2 l (.lst (ys ++ [d]))) := by
    funext d S2
    unfold mNil
    dsimp only
    cases hS : S2 l with
    | none =>
      have : lstS S2 (.ref l) = none := by
        simp [lstS, hS]
      rw [this]
      simp
    | some o =>
      cases o with
      | lst ys =>
        have : lstS S2 (.ref l) = some (l, ys) := by
          simp [lstS, hS]
        rw [this]
        simp [gAppend, small]
        omega
      | _ =>
        have : lstS S2 (.ref l) = none := by
          simp [lstS, hS]
        rw [this]
        simp
  have z := h
  rw [← fx] at z
  exact z
/-! ### zip of two -/
theorem zip2 {a b : D} {xs ys : List D} {K1 K2 : Store → Prop} {q : Pk → Store → Prop} (e1 : walkD S a = some (xs, K1)) (e2 : walkD S b = some (ys, K2)) (hl : xs.length ≤ ys.length) (h : q (zipD [xs, ys], fun T => K1 T ∧ (K2 T ∧ True)) S) : zipAns S [a, b] q := by
  have e : walksD S [a, b] = some ([xs, ys], fun T => K1 T ∧ (K2 T ∧ True)) := by
    rw [walksD, e1, walksD, e2, walksD]
  unfold zipAns
  rw [e]
  exact ⟨show 1 < 8 by decide, fun y hy => by cases List.mem_singleton.mp hy; exact hl, h⟩
theorem zip_at {ms : Mr (List D)} {q : Pk → Store → Prop} (h : ms ρ S (fun ds S1 => zipAns S1 ds q) X) : mZip ms ρ S q X := h
theorem zipD2_len {xs ys : List D} : (zipD [xs, ys]).length = xs.length := by
  unfold zipD
  rw [List.length_map,
      List.length_range]
theorem zipD2_get {xs ys : List D} {i : Nat} {d : D} (hl : xs.length ≤ ys.length) (h : (zipD [xs, ys])[i]? = some d) : ∃ u v, xs[i]? = some u ∧ ys[i]? = some v ∧ d = .tup [u, v] := by
  have hi : i < xs.length := by
    have := (List.getElem?_eq_some_iff.mp h).1
    rw [zipD2_len] at this
    exact this
  have e1 : xs[i]? = some xs[i] := List.getElem?_eq_getElem hi
  have e2 : ys[i]? = some (ys[i]'(by omega)) := List.getElem?_eq_getElem (by omega)
  refine ⟨_, _, e1, e2, ?_⟩
  unfold zipD at h
  rw [List.getElem?_map, List.getElem?_range hi] at h
  have ec : colD [xs, ys] i = [xs[i], ys[i]'(by omega)] := by
    unfold colD
    rw [List.filterMap_cons, e1, List.filterMap_cons, e2]
    rfl
  rw [Option.map_some, ec] at h
  cases h
  rfl
theorem one_l {g : List Int → Int} {ns : List Int} (hn : ns ≠ []) (h : k (.int (g ns))) : fOne g [.lst (ns.map D.int)] S k := by
  unfold fOne
  simp only [asQ, asL, ints_map]
  exact ⟨hn, h⟩
/-- every item is told by its place -/
theorem ints_by {ys : List D} {n : Nat} {f : Nat → Int} (h1 : ys.length = n) (h2 : ∀ (i : Nat) (y : D), ys[i]? = some y → y = .int (f i)) : ys = ((List.range n).map f).map D.int := by
  refine List.ext_getElem? fun i => ?_
  by_cases hi : i < n
  · rw [List.getElem?_map, List.getElem?_map, List.getElem?_range hi, List.getElem?_eq_getElem (by omega)]
    exact congrArg some (h2 i _ (List.getElem?_eq_getElem (by omega)))
  · rw [List.getElem?_eq_none (by omega), List.getElem?_eq_none (by rw [List.length_map, List.length_map, List.length_range]; omega)]
/-- nothing is left -/
theorem lc_none_go {t : Tg} {c : Mr Bool} {e : Mr D} {l : Nat} {Kp : Store → Prop} {ρ : Mir.Env} {S : Store} {Q : Store → Prop} (hK : Kp S) : ∀ {ds : List D}, (∀ d ∈ ds, ∀ (Q' : Bool → Store → Prop) (X : XC), Q' false S → match t.b d ρ with
    | some ρ1 => c ρ1 S Q' X
    | none => False) → Q S → goLc t c e l Kp ρ ds S Q
  | [], _, h => ⟨hK, h⟩
  | d :: ds, step, h => ⟨hK, by
      have z := step d List.mem_cons_self (fun b S1 => if b = true then e ((t.b d ρ).getD ρ) S1 (fun y S2 => match S2 l with
        | some (.lst acc) => small (acc.length + 1) ∧ goLc t c e l Kp ρ ds (put S2 l (.lst (acc ++ [y]))) Q
        | _ => False) (fun _ _ _ => False) else goLc t c e l Kp ρ ds S1 Q) (fun _ _ _ => False) (by
          rw [if_neg (by decide)]
          exact lc_none_go hK (fun d' hd' => step d' (List.mem_cons_of_mem _ hd')) h)
      split
      · rename_i e1
        rw [e1] at z
        exact z
      · rename_i ρ1 e1
        rw [e1] at z
        exact z⟩
theorem lc_none {it : Mr Pk} {t : Tg} {vs : List Nat} {c : Mr Bool} {e : Mr D} {ρ : Mir.Env} {S : Store} {Q : D → Store → Prop} {X : XC} (ds : List D) (Kp : Store → Prop) (hi : ∀ Q' : Pk → Store → Prop, Q' (ds, Kp) S → it ρ S Q' X) (hK : ∀ l, S l = none → Kp (put S l (.lst [])))
    (step : ∀ l, S l = none → ∀ d ∈ ds, ∀ (Q' : Bool → Store → Prop) (X : XC), Q' false (put S l (.lst [])) → match t.b d (wipM ρ vs) with
      | some ρ1 => c ρ1 (put S l (.lst [])) Q' X
      | none => False) (h : Q (.lst []) S) : mLc it t vs c e ρ S Q X := by
  refine hi _ fun l hl => lc_none_go (hK l hl) (step l hl) ?_
  rw [put_same]
  dsimp only
  rw [del_put hl]
  exact h
theorem if_nt {P R : Prop} (h : R) : if (!true) = true then P else R := h
theorem if_nf {P R : Prop} (h : P) : if (!false) = true then P else R := h
end

end Mir
end

open PySem L2 Mir
local macro_rules
  | `(tactic| false_or_by_contra) => `(tactic| repeat (first
  | with_reducible refine seq_at ?_ | with_reducible refine new_at ?_
  | with_reducible refine op_at ?_ | with_reducible refine cons_at ?_ | with_reducible refine nil_at ?_ | with_reducible refine var_at rfl ?_ | with_reducible refine c_at ?_ | with_reducible refine app_at ?_ | with_reducible refine call_at ?_
  | with_reducible refine tup_at ?_ | with_reducible refine lst_at ?_ | with_reducible refine t_at ?_ | with_reducible refine not_at ?_ | with_reducible refine or_at ?_ | with_reducible refine and_at ?_ | with_reducible refine ite_at ?_ | with_reducible refine ret_at ?_
  | with_reducible refine set_at ?_ | with_reducible refine asg_at ?_ | with_reducible refine drop_at ?_ | with_reducible refine next_at ?_ | with_reducible refine par_at ?_ | with_reducible refine isB_at ?_ | with_reducible refine if_t ?_ | with_reducible refine if_f ?_ | with_reducible refine if_nt ?_ | with_reducible refine if_nf ?_
  | with_reducible refine un_at ?_ | with_reducible refine mif_at ?_ | with_reducible refine andv_at ?_ | with_reducible refine avK_t ?_ | with_reducible refine avK_f ?_ | with_reducible refine orv_at ?_ | with_reducible refine ovK_t ?_ | with_reducible refine ovK_f ?_
  | with_reducible refine notv_at ?_ | with_reducible refine nvK_t ?_ | with_reducible refine nvK_f ?_ | with_reducible refine nvK_b ?_ | with_reducible refine chn_at ?_ | with_reducible refine chK_t ?_ | with_reducible refine chK_f ?_ | with_reducible refine isi_to ?_
  | with_reducible refine isiK_v rfl rfl ?_ | with_reducible refine slice_at ?_ | with_reducible refine nop_at ?_ | with_reducible refine p_at ?_ | with_reducible refine pK_i ?_ | with_reducible refine gn_at ?_ | with_reducible refine gni_at ?_ | with_reducible refine gco_at ?_
  | with_reducible refine gq_t rfl ?_ | with_reducible refine gq_l rfl ?_ | with_reducible refine is2_at ?_
  | with_reducible refine sub_ii ?_ | with_reducible refine add_ii ?_ | with_reducible refine neg_i ?_ | with_reducible refine lt_ii ?_ | with_reducible refine gt_ii ?_ | with_reducible refine ge_ii ?_ | with_reducible refine le_ii ?_
  | with_reducible refine eq_ii ?_ | with_reducible refine ne_ii ?_ | with_reducible refine eq_bb ?_ | with_reducible refine ne_bb ?_ | with_reducible refine is_n ?_ | with_reducible refine isnot_n ?_ | with_reducible refine is_b ?_ | with_reducible refine isnot_b ?_
  | with_reducible refine ix_l atI_0 ?_ | with_reducible refine ix_t atI_0 ?_ | with_reducible refine ix_l atI_1 ?_ | with_reducible refine ix_t atI_1 ?_ | with_reducible refine ix_l atI_2 ?_ | with_reducible refine ix_t atI_2 ?_ | with_reducible refine ix_l atI_3 ?_ | with_reducible refine ix_t atI_3 ?_
  | with_reducible refine len_l ?_ | with_reducible refine len_t ?_ | with_reducible refine len_f ?_ | with_reducible refine tuple_l ?_ | with_reducible refine tuple_t ?_ | with_reducible refine list_l ?_ | with_reducible refine list_t ?_
  | with_reducible refine int_b ?_ | with_reducible refine int_i ?_ | with_reducible refine two_ii ?_ | with_reducible refine cut_tt ?_ | with_reducible refine cut_ll ?_
  | with_reducible refine for_at ?_ | with_reducible refine wk_to ?_ | with_reducible refine wkK_t ?_ | with_reducible refine wkK_l ?_ | with_reducible refine enum_at ?_ | with_reducible refine enK_t ?_ | with_reducible refine enK_l ?_
  | with_reducible refine mod_ii (by decide) ?_ | with_reducible refine pow_ii (cpow (by decide) (by decide) (by decide)) ?_
  | with_reducible refine small_at (by first | decide | (simp only [List.length_cons, List.length_nil]; decide) | omega) ?_ | with_reducible refine len_at rfl ?_))

section
set_option Elab.async false
set_option linter.all false
set_option maxRecDepth 100000
set_option maxHeartbeats 1001000
/-! try: .. except A: a suite that raises nothing. -/
namespace Mir
open L2 PyProof.Rows PySem PySem.Spec
def mTry1 (kd : Addr → Option Bool) (mb false_or_by_contra : MS) : MS := fun M ρ S => mb { M with xc := fun C fs ρ' S' => ∃ b, kd C = some b ∧ (b = true → false_or_by_contra { M with xc := fun _ _ _ _ => False } ρ' S') ∧ (b = false → M.xc C fs ρ' S') } ρ S
section
variable {X : Cx}
theorem js_try1 {x : Str} {c : Value} {body suite : List Stmt} {b₀ : Stmt} {np pos pos' : Pos} {mb false_or_by_contra : MS} (hs : X.stack = X.env :: X.outer) (hf : X.env.frame = some X.env.locals) (hc : Names X x c)
    (hb : ∀ (pn : List (Addr × Obj)) (xe : Value → Shared → Prop), JB (X.tr pn xe) body mb) (hsu : ∀ (a : Addr) (pn : List (Addr × Obj)), JB (X.suite a pn) (b₀ :: suite) false_or_by_contra) :
    JS X (.Try body [.ExceptHandler (some (.Name x np)) none (b₀ :: suite) pos'] [] [] pos) (mTry1 (fun C => PySem.W.exmOne X.K (.ref C) c) mb false_or_by_contra) :=
  ⟨fun Wx tk => ps_imp (ps_try_only (tb := fun W => tS X.K mb W) (ts := fun _ _ _ => tS X.K false_or_by_contra fun _ _ _ _ => False) hs hf hc tk (fun W pn xe tkW _ => (hb pn xe).pb W tkW) fun a oe cls d pn _ _ => (hsu a _).pb _ takes0) fun D σ H ⟨W, ρ, M, eH, rs, re, er, q⟩ => by
    refine ⟨W, ρ, { M with xc := fun C fs ρ' S' => ∃ b, PySem.W.exmOne X.K (.ref C) c = some b ∧ (b = true → false_or_by_contra { M with xc := fun _ _ _ _ => False } ρ' S') ∧ (b = false → M.xc C fs ρ' S') }, eH, rs, re, ⟨er.nx, er.rt, fun W' σ' ρ' l rs' re' W2 C dd fv fs l2 rs2 e1 e2 r2 q2 => ?_, er.bk, er.ct⟩, q⟩
    obtain ⟨b, hb1, h1, h2⟩ := q2
    refine ⟨b, hb1, fun hb2 a ha => ?_, fun hb2 => er.xc W' σ' ρ' l rs' re' W2 C dd fv fs l2 rs2 e1 e2 r2 (h2 hb2)⟩
    have er2 := er.mono (l.trans l2)
    exact ⟨W2, ρ', { M with xc := fun _ _ _ _ => False }, rfl, rs2, re'.mono l2, ⟨er2.nx, er2.rt, fun _ _ _ _ _ _ _ _ _ _ _ _ _ _ _ _ z => z.elim, er2.bk, er2.ct⟩, h1 hb2⟩⟩
end
end Mir
end

section
set_option Elab.async false
set_option linter.all false
set_option maxRecDepth 100000
set_option maxHeartbeats 1001000
/-! Dicts that never change, as values: made by locking; read, asked, walked. -/
namespace Mir
open PySem L2
def kD : Key → D
  | .inl i => .int i
  | .inr s => .str s
theorem rd_kD {W : Wd} : ∀ k : Key, RD W (kV k) (kD k)
  | .inl i => .int i
  | .inr s => .str s
theorem zip_RKg {W : Wd} {κ : Type} : ∀ {ks : List κ} {vs : List V} {ds : List D}, RDs W vs ds → RK W (ks.zip vs) (ks.zip ds)
  | [], _, _, _ => .nil
  | _ :: _, _, _, .nil => .nil
  | f :: fs, _, _, .cons r t => .cons ⟨rfl, r⟩ (zip_RKg t)
/-- the pairs of a dict, living or not -/
def dkR (S : Store) : D → Option (List (Key × D))
  | .dct ks ds => some (ks.zip ds)
  | .ref l => (S l).bind fun o => match o with
    | .dk kvs => some kvs
    | _ => none
  | _ => none
theorem dkR_of {K : PySem.W.Frag} {W : Wd} (rs : RS K W) {v : V} {d : D} {kvs : List (Key × D)} (r : RD W v d) (h : dkR W.S d = some kvs) : ∃ a ks, v = .ref a ∧ Rd W.H a (.dK ks) ∧ RK W ks kvs := by
  cases r with
  | dct h1 h2 h3 h4 =>
    cases h
    exact ⟨_, _, rfl, .inr ⟨_, h1⟩, zip_RKg h4⟩
  | ref l hl =>
    cases e : W.S l with
    | none => simp [dkR, e] at h
    | some o =>
      cases o with
      | dk ys =>
        simp [dkR, e] at h
        subst h
        obtain ⟨ks, h3, h4⟩ := rs.obj l _ e
        exact ⟨_, ks, rfl, .inl h3, h4⟩
      | _ => simp [dkR, e] at h
  | _ => cases h
section
variable {X : Cx} {a b c e o i f : Expr} {ma mb mc me mo mi mf : Mr D} {pos p : Pos} {es : List Expr} {false_or_by_contra mk : Mr (List D)}
/-- d[k] -/
def fDAt : F2 := fun o i S k => match dkR S o, keyD i with
  | some kvs, some q => match look kvs q with
    | some d => k d
    | none => False
  | _, _ => False
theorem je_dat (hu : X.A.units + 1 < cLine) (ho : JE X o mo) (hi : JE X i mi) (hs : NoSl i := by exact fun _ _ => rfl) : JE X (.Subscript o i pos) (mOp fDAt mo mi) :=
  ⟨fun Wx tk => pe_imp (pe_dget hu (ho.pe Wx tk) (hi.pe Wx tk) hs) fun σ H Q ⟨W, ρ, Qm, Xm, eH, rs, re, xr, k, q⟩ => by
    subst eH
    refine ⟨W, ρ, _, Xm, rfl, rs, re, xr, fun W1 v d l1 rs1 r1 m1 => ⟨W1, ρ, _, Xm, rfl, rs1, re.mono l1, xr.mono l1, fun W2 y dy l2 rs2 r2 m2 => ?_, m1⟩, q⟩
    unfold fDAt at m2
    split at m2
    · rename_i kvs kk e1 e2
      split at m2
      · rename_i dv e3
        obtain ⟨a, ks, hv, h3, h4⟩ := dkR_of (K := X.K) rs2 (r1.mono l2) e1
        rw [hv]
        obtain ⟨v', h5, h6⟩ := (RK.look (k := kk) h4).1 _ e3
        rw [key_of r2 e2]
        have g : DGet W2.H a (kV kk) (valV ks kk) := .inl ⟨ks, kk, h3, rfl, rfl⟩
        rw [h5] at g
        exact ⟨_, v', rfl, g, k W2 v' dv (l1.trans l2) rs2 h6 m2⟩
      · exact m2.elim
    · exact m2.elim⟩
/-- k in d, k not in d -/
def mDHas (n : Bool) (mi mo : Mr D) : Mr D := fun ρ S Q X => mi ρ S (fun i S1 => mo ρ S1 (fun o S2 => match dkR S2 o, keyD i with
  | some kvs, some q => Q (.bl (n ^^ (look kvs q).isSome)) S2
  | _, _ => False) X) X
theorem dhas_of {n : Bool} {Wx : WX} {σ : St} {H : Hp} {Q : VK} (h : tE K (mDHas n mi mo) Wx σ H Q) : tE K mi Wx σ H fun y H1 => tE K mo Wx σ H1 fun x H2 => ∃ a o, x = .ref a ∧ DGet H2 a y o ∧ Q (.bl (n ^^ o.isSome)) H2 := by
  obtain ⟨W, ρ, Qm, Xm, eH, rs, re, xr, k, q⟩ := h
  refine ⟨W, ρ, _, Xm, eH, rs, re, xr, fun W1 v d l1 rs1 r1 m1 => ⟨W1, ρ, _, Xm, rfl, rs1, re.mono l1, xr.mono l1, fun W2 y dy l2 rs2 r2 m2 => ?_, m1⟩, q⟩
  split at m2
  · rename_i kvs kk e1 e2
    obtain ⟨a, ks, rfl, h3, h4⟩ := dkR_of (K := K) rs2 r2 e1
    rw [key_of (r1.mono l2) e2]
    refine ⟨_, valV ks kk, rfl, .inl ⟨ks, kk, h3, rfl, rfl⟩, ?_⟩
    obtain ⟨q1, q2⟩ := RK.look (k := kk) h4
    cases e3 : look kvs kk with
    | none =>
      rw [q2 e3]
      rw [e3] at m2
      exact k W2 _ _ (l1.trans l2) rs2 (.bl _) m2
    | some dd =>
      obtain ⟨vv, e4, _⟩ := q1 dd e3
      rw [e4]
      rw [e3] at m2
      exact k W2 _ _ (l1.trans l2) rs2 (.bl _) m2
  · exact m2.elim
theorem je_dhas (hu : X.A.units + 1 < cLine) (hi : JE X i mi) (ho : JE X o mo) (h1 : behindInMarks .In o = false := by rfl) : JE X (.Compare i [.In] [o] pos) (mDHas false mi mo) :=
  ⟨fun Wx tk => pe_imp (pe_cmp (pc_din hu (hi.pe Wx tk) (ho.pe Wx tk)) h1) fun σ H Q h => by
    have z := dhas_of h
    simp only [Bool.false_xor] at z
    exact z⟩
theorem je_dnhas (hu : X.A.units + 1 < cLine) (hi : JE X i mi) (ho : JE X o mo) (h1 : behindInMarks .NotIn o = false := by rfl) : JE X (.Compare i [.NotIn] [o] pos) (mDHas true mi mo) :=
  ⟨fun Wx tk => pe_imp (pe_cmp (pc_dnotin hu (hi.pe Wx tk) (ho.pe Wx tk)) h1) fun σ H Q h => by
    have z := dhas_of h
    simp only [Bool.true_xor] at z
    exact z⟩
/-- d.get(k, x) -/
def mDGet2 (mo mi mf : Mr D) : Mr D := fun ρ S Q X => mo ρ S (fun o S1 => (dkR S1 o).isSome = true ∧ mi ρ S1 (fun i S2 => mf ρ S2 (fun z S3 => match dkR S3 o, keyD i with
  | some kvs, some q => Q ((look kvs q).getD z) S3
  | _, _ => False) X) X) X
theorem je_dget2 {apos cpos : Pos} (hu : X.A.units + 1 < cLine) (ho : JE X o mo) (hi : JE X e mi) (hf : JE X f mf) (m : M2 X o "get" apos e f cpos := by exact ⟨rfl, rfl, rfl, rfl⟩) : JE X (.Call (.Attribute o "get" apos) [e, f] [] cpos) (mDGet2 mo mi mf) :=
  ⟨fun Wx tk => pe_imp (pe_dget2 hu (ho.pe Wx tk) (hi.pe Wx tk) (hf.pe Wx tk) m) fun σ H Q ⟨W, ρ, Qm, Xm, eH, rs, re, xr, k, q⟩ => by
    subst eH
    refine ⟨W, ρ, _, Xm, rfl, rs, re, xr, fun W1 v d l1 rs1 r1 m1 => ?_, q⟩
    obtain ⟨m0, m1⟩ := m1
    cases e0 : dkR W1.S d with
    | none => rw [e0] at m0; cases m0
    | some kvs0 =>
      obtain ⟨a, ks0, rfl, h0, _⟩ := dkR_of (K := X.K) rs1 r1 e0
      refine ⟨a, rfl, .inl ⟨_, h0⟩, W1, ρ, _, Xm, rfl, rs1, re.mono l1, xr.mono l1, fun W2 y dy l2 rs2 r2 m2 => ⟨W2, ρ, _, Xm, rfl, rs2, re.mono (l1.trans l2), xr.mono (l1.trans l2), fun W3 z dz l3 rs3 r3 m3 => ?_, m2⟩, m1⟩
      split at m3
      · rename_i kvs kk e1 e2
        obtain ⟨a', ks, ea, h3, h4⟩ := dkR_of (K := X.K) rs3 (r1.mono (l2.trans l3)) e1
        cases ea
        rw [key_of (r2.mono l3) e2]
        refine ⟨valV ks kk, .inl ⟨ks, kk, h3, rfl, rfl⟩, ?_⟩
        obtain ⟨q1, q2⟩ := RK.look (k := kk) h4
        cases e3 : look kvs kk with
        | none =>
          rw [q2 e3]
          rw [e3] at m3
          exact k W3 _ _ ((l1.trans l2).trans l3) rs3 r3 m3
        | some dd =>
          obtain ⟨vv, e4, r4⟩ := q1 dd e3
          rw [e4]
          rw [e3] at m3
          exact k W3 _ _ ((l1.trans l2).trans l3) rs3 r4 m3
      · exact m3.elim⟩
/-- for k, v in d.items(), d locked -/
def itD (ks : List Key) (ds : List D) : List D := (ks.zip ds).map fun p => .tup [kD p.1, p.2]
theorem jr_items {K : PySem.W.Frag} {W : Wd} {a : Addr} {o : Obj} {ks : List Key} {vs : List V} {ds : List D} (h : W.H a = some (.frz o (.dK (ks.zip vs)))) (n : ¬ Live W a) (r : RDs W vs ds) : JR K W (Iti a o (ks.zip vs)) (itD ks ds) fun _ => True := by
  intro W' l rs _
  obtain ⟨h', n'⟩ := l.k _ _ h n
  have r' := zip_RKg (ks := ks) (r.mono l)
  have hl : (ks.zip vs).length = (ks.zip ds).length := by rw [List.length_zip, List.length_zip, r.length]
  refine ⟨fun i d e => ?_, ?_⟩
  · unfold itD at e
    rw [List.getElem?_map] at e
    cases ez : (ks.zip ds)[i]? with
    | none => rw [ez] at e; cases e
    | some z =>
      rw [ez] at e
      cases e
      have hi := (List.getElem?_eq_some_iff.mp ez).1
      refine ⟨⟨h', by rw [hl]; exact hi⟩, ?_⟩
      rintro x H' ⟨T, k, v, e1, rfl, hT, rfl⟩
      obtain ⟨⟨k2, d2⟩, q1, q2, q3⟩ := paired_get r' e1
      rw [ez] at q1
      cases q1
      dsimp only at q2 q3 ⊢
      subst q2
      exact ⟨W'.add T (.tup [kV k, v]), rfl, rfl, Le.add rs hT, rs.add hT, new_tup rs hT (.cons (rd_kD _) (.cons q3 .nil))⟩
  · refine ⟨h', ?_⟩
    unfold itD
    rw [List.length_map, hl]
    exact Nat.le_refl _
theorem jr_keys {K : PySem.W.Frag} {W : Wd} {a : Addr} {o : Obj} {ks : List Key} {vs : List V} {ds : List D} (h : W.H a = some (.frz o (.dK (ks.zip vs)))) (n : ¬ Live W a) (r : RDs W vs ds) : JR K W (Itk a o (ks.zip vs)) ((ks.zip ds).map fun p => kD p.1) fun _ => True := by
  intro W' l rs _
  obtain ⟨h', n'⟩ := l.k _ _ h n
  have r' := zip_RKg (ks := ks) (r.mono l)
  have hl : (ks.zip vs).length = (ks.zip ds).length := by rw [List.length_zip, List.length_zip, r.length]
  refine ⟨fun i d e => ?_, ?_⟩
  · rw [List.getElem?_map] at e
    cases ez : (ks.zip ds)[i]? with
    | none => rw [ez] at e; cases e
    | some z =>
      rw [ez] at e
      cases e
      have hi := (List.getElem?_eq_some_iff.mp ez).1
      refine ⟨⟨h', by rw [hl]; exact hi⟩, ?_⟩
      rintro x H' ⟨rfl, k, v, e1, rfl⟩
      obtain ⟨⟨k2, d2⟩, q1, q2, q3⟩ := paired_get r' e1
      rw [ez] at q1
      cases q1
      dsimp only at q2 ⊢
      subst q2
      exact ⟨W', rfl, rfl, Le.refl W', rs, rd_kD _⟩
  · refine ⟨h', ?_⟩
    rw [List.length_map, hl]
    exact Nat.le_refl _
def mItems (me : Mr D) : Mr Pk := fun ρ S Q X => me ρ S (fun d S1 => match d with
  | .dct ks ds => Q (itD ks ds, fun _ => True) S1
  | _ => False) X
def mKeys (me : Mr D) : Mr Pk := fun ρ S Q X => me ρ S (fun d S1 => match d with
  | .dct ks ds => Q ((ks.zip ds).map fun p => kD p.1, fun _ => True) S1
  | _ => False) X
theorem ji_items {elts : List Expr} {kk : Nat} {tpos apos cpos : Pos} (he : JE X e me) (hbase : attributeBase e "items" X.env (eval e X.env) = eval e X.env := by rfl) (hline : (apos.endLine == cpos.line) = true := by rfl) :
    JI X (.Tuple elts kk tpos) (.Call (.Attribute e "items" apos) [] [] cpos) (mItems me) := ⟨fun Wx tk => pi_imp (pi_items (he.pe Wx tk) hbase hline) fun σ H R ⟨W, ρ, Qm, Xm, eH, rs, re, xr, k, q⟩ => by
  subst eH
  refine ⟨W, ρ, _, Xm, rfl, rs, re, xr, fun W1 v d l rs1 r1 q1 => ?_, q⟩
  split at q1
  · cases r1 with
    | dct h1 h2 h3 h4 => exact ⟨_, _, _, rfl, h1, k W1 _ _ l rs1 (jr_items h1 h2 h4) q1⟩
  · exact q1.elim⟩
theorem ji_keys {tg : Expr} (he : JE X e me) : JI X tg e (mKeys me) := ⟨fun Wx tk => pi_imp (pi_keys (he.pe Wx tk)) fun σ H R ⟨W, ρ, Qm, Xm, eH, rs, re, xr, k, q⟩ => by
  subst eH
  refine ⟨W, ρ, _, Xm, rfl, rs, re, xr, fun W1 v d l rs1 r1 q1 => ?_, q⟩
  split at q1
  · cases r1 with
    | dct h1 h2 h3 h4 => exact ⟨_, _, rfl, .inl ⟨_, h1, k W1 _ _ l rs1 (jr_keys h1 h2 h4) q1⟩⟩
  · exact q1.elim⟩
end
end Mir
end

section
set_option Elab.async false
set_option linter.all false
set_option maxRecDepth 100000
set_option maxHeartbeats 1001000
/-! A living dict becomes a value: it is locked, and lives no more. -/
namespace Mir
open PySem L2
/-- n things are locked, one after the other -/
def gLock : Nat → (Hp → Prop) → Hp → Prop
  | 0, Q, H => Q H
  | n + 1, Q, H => ∃ d u, H d = some u ∧ Mut (some u) ∧ ∀ od, gLock n Q (upd H d (.frz od u))
theorem lock_all {X : Cx} {pins : List (Addr × Obj)} {σ : L2.St} {s : Shared} {Q : Hp → Prop} : ∀ {n : Nat} {H : Hp}, Inv X pins σ H s → gLock n Q H → ∃ H', Inv X pins σ H' s ∧ Q H'
  | 0, H, I, q => ⟨H, I, q⟩
  | n + 1, H, I, ⟨d, u, h, mu, q⟩ => by
    obtain ⟨od, I1⟩ := I.lock h mu
    exact lock_all I1 (q od)
theorem pe_ghost {X : Cx} {e : Expr} {t : TE} (h : PE X e t) : PE X e (fun σ H Q => t σ H fun x H1 => ∃ n, gLock n (fun H' => Q x H') H1) := by
  refine ⟨fun pins s σ H Q I hw =>
      ?_⟩
  refine thn (h.run pins s σ H _ I hw) fun v s1 ⟨x, H1, I1, r, ds, q⟩ => ?_
  obtain ⟨H', I2, q2⟩ := lock_all I1 q
  exact ⟨x, H', I2, r, q2⟩
def Wd.frz (W : Wd) (l : Nat) (u : HO) : Wd := { W with S := del W.S l, H := upd W.H (W.μ l) u }
theorem live_frz {W : Wd} {l : Nat} {u : HO} {a : Addr} : Live (W.frz l u) a → Live W a := fun ⟨k, r, hk, ha⟩ => ⟨k, r, Sub.del _ _ k r hk, ha⟩
theorem Le.frz {W : Wd} {l : Nat} {u : HO} {q : O} (e : W.S l = some q) : Le W (W.frz l u) :=
  ⟨Nat.le_refl _, fun _ _ => rfl, fun a v h n _ => ⟨by show upd W.H (W.μ l) u a = _; rw [upd_ne fun z => n ⟨l, q, e, z.symm⟩]; exact h, fun x => n (live_frz x)⟩, rfl, rfl⟩
theorem RS.frz {K : PySem.W.Frag} {W : Wd} (R : RS K W) {l : Nat} {u : HO} {kvs : List (Key × D)} (e : W.S l = some (.dk kvs)) : RS K (W.frz l u) := by
  have key : ∀ k r, (W.frz l u).S k = some r → k ≠ l ∧ W.S k = some r := fun k r h => by
    have z : del W.S l k = some r := h
    by_cases hk : k = l
    · rw [hk, del_same] at z; cases z
    · rw [del_ne hk] at z; exact ⟨hk, z⟩
  obtain ⟨ks, h1, h2⟩ := R.obj l _ e
  refine ⟨fun k r h => R.dom k r (key k r h).2, fun k r h => ?_, fun k k' r r' h h' z => R.inj k k' r r' (key k r h).2 (key k' r' h').2 z, R.kl, tabs_wr R.tb h1 nofun nofun⟩
  obtain ⟨hk, z⟩ := key k r h
  refine (R.obj k r z).keep (Le.frz e) fun v w => ?_
  show upd W.H (W.μ l) u (W.μ k) = _
  rw [upd_ne fun x => hk (R.inj k l r _ z e x)]; exact w
theorem zip_fs {κ β : Type} : ∀ l : List (κ × β), (l.map (·.1)).zip (l.map (·.2)) = l
  | [] => rfl
  | x :: l => by rw [List.map_cons, List.map_cons, List.zip_cons_cons, zip_fs l]
theorem RK.fst {W : Wd} {κ : Type} : ∀ {a : List (κ × V)} {b : List (κ × D)}, RK W a b → a.map (·.1) = b.map (·.1)
  | _, _, .nil => rfl
  | _, _, .cons r t => by rw [List.map_cons, List.map_cons, r.1, RK.fst t]
theorem RK.snd {W : Wd} {κ : Type} : ∀ {a : List (κ × V)} {b : List (κ × D)}, RK W a b → RDs W (a.map (·.2)) (b.map (·.2))
  | _, _, .nil => .nil
  | _, _, .cons r t => .cons r.2 (RK.snd t)
/-- a dict that lives no more is a value -/
theorem RD.frzK {K : PySem.W.Frag} {W : Wd} (R : RS K W) {l : Nat} {kvs : List (Key × D)} (e : W.S l = some (.dk kvs)) : ∃ ks, W.H (W.μ l) = some (.dK ks) ∧ ∀ od, RD (W.frz l (.frz od (.dK ks))) (.ref (W.μ l)) (.dct (kvs.map (·.1)) (kvs.map (·.2))) := by
  obtain ⟨ks, h1, h2⟩ := R.obj l _ e
  refine ⟨ks, h1, fun od => ?_⟩
  have le : Le W (W.frz l (.frz od (.dK ks))) := Le.frz e
  have r2 : RDs (W.frz l (.frz od (.dK ks))) (ks.map (·.2)) (kvs.map (·.2)) := (RK.snd h2).mono le
  refine .dct (o := od) (vs := ks.map (·.2)) ?_ ?_ ?_ r2
  · show upd W.H (W.μ l) _ _ = _
    rw [upd_same, ← RK.fst h2, zip_fs]
  · rintro ⟨k, o, hk, hm⟩
    have z : del W.S l k = some o := hk
    by_cases hl : k = l
    · rw [hl, del_same] at z; cases z
    · rw [del_ne hl] at z
      exact hl (R.inj k l o _ z e hm)
  · rw [← RK.fst h2, List.length_map, List.length_map]
/-- every one of a list's dicts -/
def frzs (S : Store) : List D → Option (List D × Store)
  | [] => some ([], S)
  | .ref l :: r => match S l with
    | some (.dk kvs) => (frzs (del S l) r).map fun p => (.dct (kvs.map (·.1)) (kvs.map (·.2)) :: p.1, p.2)
    | _ => none
  | _ :: _ => none
theorem frzs_ok {K : PySem.W.Frag} {Q : Hp → Prop} : ∀ {ds : List D} {vs : List V} {W : Wd} {xs : List D} {T : Store}, RS K W → RDs W vs ds → frzs W.S ds = some (xs, T) → (∀ W', Le W W' → RS K W' → W'.S = T → RDs W' vs xs → Q W'.H) → gLock ds.length Q W.H
  | [], _, W, xs, T, rs, .nil, h, k => by
    rw [frzs] at h
    cases h
    exact k W (Le.refl W) rs rfl .nil
  | d :: ds, _, W, xs, T, rs, .cons (v := v) (vs := vs) r1 r2, h, k => by
    cases r1 with
    | ref l hl =>
      rw [frzs] at h
      split at h
      · rename_i kvs e
        cases e2 : frzs (del W.S l) ds with
        | none => rw [e2] at h; cases h
        | some p =>
          rw [e2] at h
          cases h
          obtain ⟨ks, h1, h2⟩ := RD.frzK rs e
          refine ⟨W.μ l, .dK ks, h1, trivial, fun od => ?_⟩
          have le : Le W (W.frz l (.frz od (.dK ks))) := Le.frz e
          refine frzs_ok (W := W.frz l (.frz od (.dK ks))) (xs := p.1) (T := p.2) (rs.frz e) (r2.mono le) (by rw [show (W.frz l (.frz od (.dK ks))).S = del W.S l from rfl, e2]) fun W' l' rs' eS r' => ?_
          exact k W' (le.trans l') rs' eS (.cons ((h2 od).mono l') r')
      · cases h
    | _ => cases h
section
variable {X : Cx} {e : Expr} {me : Mr D}
/-- a living dict, handed on as a value -/
def mFrzK (me : Mr D) : Mr D := fun ρ S Q X => me ρ S (fun d S1 => match frzs S1 [d] with
  | some ([x], T) => Q x T
  | _ => False) X
theorem je_frzK (h : JE X e me) : JE X e (mFrzK me) := ⟨fun Wx tk => pe_imp (pe_ghost (h.pe Wx tk)) fun σ H Q ⟨W, ρ, Qm, Xm, eH, rs, re, xr, k, q⟩ => by
  subst eH
  refine ⟨W, ρ, _, Xm, rfl, rs, re, xr, fun W1 v d l rs1 r1 q1 => ?_, q⟩
  split at q1
  · rename_i x T e1
    refine ⟨1, frzs_ok (ds := [d]) rs1 (.cons r1 .nil) e1 fun W' l' rs' eS r' => ?_⟩
    subst eS
    cases r' with
    | cons r2 r3 => exact k W' v x (l.trans l') rs' r2 q1
  · exact q1.elim⟩
/-- a list of living dicts, handed on as a value -/
def mFrzL (me : Mr D) : Mr D := fun ρ S Q X => me ρ S (fun d S1 => match d with
  | .lst ds => match frzs S1 ds with
    | some (xs, T) => Q (.lst xs) T
    | none => False
  | _ => False) X
theorem je_frzL (h : JE X e me) : JE X e (mFrzL me) := ⟨fun Wx tk => pe_imp (pe_ghost (h.pe Wx tk)) fun σ H Q ⟨W, ρ, Qm, Xm, eH, rs, re, xr, k, q⟩ => by
  subst eH
  refine ⟨W, ρ, _, Xm, rfl, rs, re, xr, fun W1 v d l rs1 r1 q1 => ?_, q⟩
  split at q1
  · rename_i ds
    split at q1
    · rename_i xs T e1
      cases r1 with
      | lst h1 h2 h3 =>
        refine ⟨ds.length, frzs_ok rs1 h3 e1 fun W' l' rs' eS r' => ?_⟩
        subst eS
        exact k W' _ _ (l.trans l') rs' (.lst (l'.k _ _ h1 h2).1 (l'.k _ _ h1 h2).2 r') q1
    · exact q1.elim
  · exact q1.elim⟩
end
end Mir
end

section
set_option Elab.async false
set_option linter.all false
set_option maxRecDepth 100000
set_option maxHeartbeats 1001000
/-! Comprehensions whose list lives on; += of a name, of a dict's item; extend. -/
namespace Mir
open PySem L2
def mLcN (it : Mr Pk) (t : Tg) (vs : List Nat) (c : Mr Bool) (e : Mr D) : Mr D := fun ρ S Q X => it ρ S (fun p S1 => ∀ l, S1 l = none → goLc t c e l p.2 (wipM ρ vs) p.1 (put S1 l (.lst [])) fun S2 => match S2 l with
  | some (.lst acc) => Q (.ref l) S2
  | _ => False) X
theorem lcN_of {K : PySem.W.Frag} {it : Mr Pk} {t : Tg} {vs : List Nat} {c : Mr Bool} {e : Mr D} {Wx : WX} {σ : St} {H : Hp} {Q : VK} (hv : ∀ i ∈ t.sl, i ∈ vs) (h : tE K (mLcN it t vs c e) Wx σ H Q) :
    tLc (tI K it Wx) (t.v K) (tT K c fun _ _ _ _ => False) (tE K e fun _ _ _ _ => False) vs σ H Q := by
  obtain ⟨W, ρ, Qm, Xm, eH, rs, re, xr, k, q⟩ := h
  subst eH
  refine ⟨W, ρ, _, Xm, rfl, rs, re, xr, fun W1 J p l1 rs1 jr q1 => ?_, q⟩
  intro D0 hD
  have q2 := q1 _ rs1.fresh
  -- the list lives while it grows
  have lW : Le W1 (W1.new D0 (.lst []) (.lst [])) := Le.new rs1 hD
  have rsN : RS K (W1.new D0 (.lst []) (.lst [])) := rs1.new hD ⟨[], upd_same, .nil⟩
  refine ⟨fun i m H => m = p.1.length - i ∧ ∃ W2 : Wd, W2.H = H ∧ Le (W1.new D0 (.lst []) (.lst [])) W2 ∧ RS K W2 ∧ i ≤ p.1.length ∧ goLc t c e W1.n p.2 (wipM ρ vs) (p.1.drop i) W2.S (fun S2 => match S2 W1.n with
    | some (.lst acc) => Qm (.ref W1.n) S2
    | _ => False), ⟨_, rfl, _, rfl, Le.refl _, rsN, Nat.zero_le _, q2⟩, ?_⟩
  rintro i m H2 ⟨rfl, W2, rfl, l2, rs2, hi, q3⟩
  have hμ : W2.μ W1.n = D0 := (l2.μ W1.n (Nat.lt_succ_self _)).trans new_lab
  by_cases hlt : i < p.1.length
  · rw [List.drop_eq_getElem_cons hlt] at q3
    obtain ⟨kp, q3⟩ := q3
    obtain ⟨hgo, hy⟩ := (jr W2 (lW.trans l2) rs2 kp).1 i _ (List.getElem?_eq_getElem hlt)
    refine .inr ⟨hgo, fun H3 => ∃ W3 : Wd, W3.H = H3 ∧ Le (W1.new D0 (.lst []) (.lst [])) W3 ∧ RS K W3 ∧ goLc t c e W1.n p.2 (wipM ρ vs) (p.1.drop (i + 1)) W3.S (fun S2 => match S2 W1.n with
      | some (.lst acc) => Qm (.ref W1.n) S2
      | _ => False), ?_, ?_⟩
    · rintro H3 ⟨W3, e3, l3, rs3, q4⟩
      exact ⟨_, by omega, rfl, W3, e3, l3, rs3, hlt, q4⟩
    · intro x H3 hx
      obtain ⟨W3, rfl, eS, l3, rs3, r3⟩ := hy x H3 hx
      rw [← eS] at q3
      have reW : RE W3 (wipe σ vs) (wipM ρ vs) := (re.mono (((l1.trans lW).trans l2).trans l3)).wip vs
      split at q3
      · exact q3.elim
      · rename_i ρ1 eb
        obtain ⟨σ1, re1, but1, kk⟩ := Tg.ok (K := K) (vs := vs) hv eb r3 reW
        refine kk _ ⟨But.wipe (but1.trans (But.of_wipe vs σ)), ?_⟩
        refine ⟨W3, ρ1, _, _, rfl, rs3, re1, xr0, fun W4 bb bd l4 rs4 r4 q5 => ?_, q3⟩
        cases r4
        cases bb with
        | false => exact ⟨W4, rfl, (l2.trans l3).trans l4, rs4, q5⟩
        | true =>
          refine ⟨W4, ρ1, _, _, rfl, rs4, re1.mono l4, xr0, fun W5 y dy l5 rs5 r5 q6 => ?_, q5⟩
          split at q6
          · rename_i acc ea
            obtain ⟨us, h1, h2⟩ := rs5.obj _ _ ea
            have l25 : Le (W1.new D0 (.lst []) (.lst [])) W5 := ((l2.trans l3).trans l4).trans l5
            have hμ5 : W5.μ W1.n = D0 := (l25.μ W1.n (Nat.lt_succ_self _)).trans new_lab
            have lw : Le W5 (W5.wr W1.n (.lst (us ++ [y])) (.lst (acc ++ [dy]))) := Le.wr ea
            rw [hμ5] at h1
            refine ⟨us, h1, small_lt (n := us.length) (by rw [h2.length]; unfold small at *; omega), W5.wr W1.n (.lst (us ++ [y])) (.lst (acc ++ [dy])), ?_, l25.trans lw, rs5.wr ea ⟨_, upd_same, (h2.mono lw).app (.cons (r5.mono lw) .nil)⟩, q6.2⟩
            show upd W5.H (W5.μ W1.n) _ = _
            rw [hμ5]
          · exact q6.elim
  · have hz : i = p.1.length := by omega
    subst hz
    rw [List.drop_length] at q3
    obtain ⟨kp, q3⟩ := q3
    refine .inl ⟨(jr W2 (lW.trans l2) rs2 kp).2, ?_⟩
    split at q3
    · rename_i acc ea
      have hn : W1.n < W2.n := Nat.lt_of_lt_of_le (Nat.lt_succ_self _) l2.n
      have r := RD.ref (W := W2) W1.n hn
      rw [hμ] at r
      exact k W2 _ _ (l1.trans (lW.trans l2)) rs2 r q3
    · exact q3.elim
section
variable {X : Cx} {e o i : Expr} {me mo mi : Mr D} {pos : Pos} {false_or_by_contra : Mr (List D)}
theorem je_lcN {tg iter elt : Expr} {ifs : List Expr} {scope : Scope} {own : List (Str × Nat)} {it : Mr Pk} {t : Tg} {tc : Mr Bool} {me : Mr D} (hc : X.calm = true) (hN : X.N.Nodup) (hi : JI X tg iter it) (ok : BlkOk X.N X.env.scope scope own)
    (hv : ∀ i ∈ t.sl, i ∈ own.map (·.2)) (hg : Blk X scope fun Y => PG Y tg (t.v X.K)) (ht : Blk X scope fun Y => JC Y ifs tc) (he : Blk X scope fun Y => JE Y elt me) (hs : ∀ x, foldedSetIterable iter X.env x = pure x := by intro _; rfl) :
    JE X (.ListComp elt [⟨tg, iter, ifs, 0⟩] scope pos) (mLcN it t (own.map (·.2)) tc me) :=
  ⟨fun Wx tk => pe_imp (pe_lc hc hN (hi.pi Wx tk) ok hg (fun s H C cl fp => (ht s H C cl fp).pc _ takes0) (fun s H C cl fp => (he s H C cl fp).pe _ takes0) hs) fun _ _ _ h => lcN_of hv h⟩
theorem js_setLcN {i : Nat} {y : Str} {py : Pos} {tg iter elt : Expr} {ifs : List Expr} {scope : Scope} {own : List (Str × Nat)} {it : Mr Pk} {t : Tg} {tc : Mr Bool} {me : Mr D} {spos : Pos} (hc : X.calm = true) (hN : X.N.Nodup) (hy : X.N[i]? = some y) (hyl : X.env.scope.names.lookup y = some .local)
    (hsw : swapsWith (.ListComp elt [⟨tg, iter, ifs, 0⟩] scope pos) (some (.Name y py)) spos.line X.env = pure true) (hi : JI X tg iter it) (ok : BlkOk X.N X.env.scope scope own)
    (hv : ∀ i ∈ t.sl, i ∈ own.map (·.2)) (hg : Blk X scope fun Y => PG Y tg (t.v X.K)) (ht : Blk X scope fun Y => JC Y ifs tc) (he : Blk X scope fun Y => JE Y elt me) (hs : ∀ x, foldedSetIterable iter X.env x = pure x := by intro _; rfl) :
    JS X (.Assign [.Name y py] (.ListComp elt [⟨tg, iter, ifs, 0⟩] scope pos) spos) (mSet i (mLcN it t (own.map (·.2)) tc me)) :=
  ⟨fun Wx tk => ps_imp (ps_setLc hc hN hy hyl hsw (hi.pi Wx tk) ok hg (fun s H C cl fp => (ht s H C cl fp).pc _ takes0) (fun s H C cl fp => (he s H C cl fp).pe _ takes0) hs) fun D σ H h => lcN_of (Q := fun x H1 => gName i x σ H1 D.nx) hv (set_of h)⟩
/-- x op= e -/
def mAug (i : Nat) (f : F2) (me : Mr D) : MS := fun M ρ S => match ρ[i]? with
  | some (some x) => me ρ S (fun y S1 => f x y S1 fun z => M.nx (ρ.set i (some z)) S1) (M.x ρ)
  | _ => False
theorem js_aug {i : Nat} {x : Str} {op : Operator} {f : F2} {r : R2} {p' : Pos} (hN : X.N.Nodup) (hi : X.N[i]? = some x) (hx : Loc X.env.scope x) (he : JE X e me) (ho : PIp X op r) (hs : Snd2 X.K f r) (hf : X.fn x = true ∨ X.env.scope.names.lookup x = some .local := by first | exact .inl rfl | exact .inr rfl) : JS X (.AugAssign (.Name x p') op e pos) (mAug i f me) :=
  ⟨fun Wx tk => ps_imp (ps_aug hN hi hx (he.pe Wx tk) ho hf) fun D0 σ H ⟨W, ρ, M, eH, rs, re, er, q⟩ => by
    subst eH
    unfold mAug at q
    split at q
    · rename_i d e1
      obtain ⟨v, e2, r2⟩ := re.2 i d e1
      refine ⟨v, e2, W, ρ, _, M.x ρ, rfl, rs, re, er.xc W σ ρ (Le.refl W) rs re, fun W1 y dy l1 rs1 r1 m1 => ?_, q⟩
      exact hs W1 v y d dy _ (fun z S1 => M.nx (ρ.set i (some z)) S1) rs1 (r2.mono l1) r1 (fun W2 z dz l2 rs2 r3 m3 => er.nx W2 _ _ (l1.trans l2) rs2 ((re.mono (l1.trans l2)).set i r3) m3) m1
    · exact q.elim⟩
theorem jaug (i : Nat) {x : Str} {op : Operator} {f : F2} {r : R2} {p' : Pos} (he : JE X e me) (ho : PIp X op r) (hs : Snd2 X.K f r) (hN : X.N.Nodup := by decide +kernel) (hi : X.N[i]? = some x := by rfl) (hx : Loc X.env.scope x := by first | exact Or.inl rfl | exact Or.inr rfl) (hf : X.fn x = true ∨ X.env.scope.names.lookup x = some .local := by first | exact .inl rfl | exact .inr rfl) : JS X (.AugAssign (.Name x p') op e pos) (mAug i f me) := js_aug hN hi hx he ho hs hf
abbrev fAddI : F2 := fI0 fun i j => .int (i + j)
theorem snd_ipI {g : Int → Int → Int} : Snd2 K (fI0 fun i j => .int (g i j)) (ipI g) := snd_I0
/-- d[k] op= e -/
def mDAug (f : F2) (mo mi me : Mr D) : MS := fun M ρ S => mo ρ S (fun o S1 => mi ρ S1 (fun i S2 => match dkS S2 o, keyD i with
  | some (_, kvs), some q => match look kvs q with
    | some x => me ρ S2 (fun y S3 => f x y S3 fun z => match dkS S3 o with
      | some (l, kvs3) => small kvs3.length ∧ M.nx ρ (put S3 l (.dk (stor kvs3 q z)))
      | none => False) (M.x ρ)
    | none => False
  | _, _ => False) (M.x ρ)) (M.x ρ)
theorem js_daug {op : Operator} {f : F2} {r : R2} {tpos : Pos} (hu : X.A.units + 1 < cLine) (ho : JE X o mo) (hi : JE X i mi) (he : JE X e me) (hop : InOp X op r) (hs : Snd2 X.K f r)
    (ha : ∀ ov iv new, augStore i ov iv new = (do holding [new, ov, iv] (setItem ov iv new); release [new, ov, iv] []; pure .next) := by intros; rfl) : JS X (.AugAssign (.Subscript o i tpos) op e pos) (mDAug f mo mi me) :=
  ⟨fun Wx tk => ps_imp (ps_daug hu (ho.pe Wx tk) (hi.pe Wx tk) (he.pe Wx tk) hop ha) fun D0 σ H ⟨W, ρ, M, eH, rs, re, er, q⟩ => by
    subst eH
    have xr := er.xc W σ ρ (Le.refl W) rs re
    refine ⟨W, ρ, _, _, rfl, rs, re, xr, fun W1 x dx l1 rs1 r1 m1 => ⟨W1, ρ, _, _, rfl, rs1, re.mono l1, xr.mono l1, fun W2 y dy l2 rs2 r2 m2 => ?_, m1⟩, q⟩
    split at m2
    · rename_i l0 kvs kk e1 e2
      split at m2
      · rename_i xv e3
        obtain ⟨er1, h1, hv, h2, ks, h3, h4⟩ := dkS_of rs2 (r1.mono l2) e1
        subst hv
        obtain ⟨v', h5, h6⟩ := (RK.look (k := kk) h4).1 _ e3
        rw [key_of r2 e2]
        have g := DGet.k (k := kk) h3
        rw [h5] at g
        refine ⟨_, v', rfl, g, W2, ρ, _, _, rfl, rs2, re.mono (l1.trans l2), xr.mono (l1.trans l2), fun W3 y3 dy3 l3 rs3 r3 m3 => ?_, m2⟩
        refine hs W3 v' y3 xv dy3 _ (fun z S3 => match dkS S3 dx with
          | some (l, kvs3) => small kvs3.length ∧ M.nx ρ (put S3 l (.dk (stor kvs3 kk z)))
          | none => False) rs3 (h6.mono l3) r3 (fun W4 z dz l4 rs4 r4 m4 => ?_) m3
        dsimp only at m4
        split at m4
        · rename_i l kvs3 e4
          obtain ⟨er5, g1, hv5, g2, ks5, g3, g4⟩ := dkS_of rs4 (r1.mono ((l2.trans l3).trans l4)) e4
          have lw : Le W4 (W4.wr l (.dK (putK ks5 kk z)) (.dk (stor kvs3 kk dz))) := Le.wr g1
          have ll := ((l1.trans l2).trans l3).trans l4
          injection hv5 with e5
          rw [e5]
          refine ⟨_, DPut.k g3 (by rw [RK.len g4]; exact small_lt m4.1), ?_⟩
          exact er.nx (W4.wr l _ _) σ ρ (ll.trans lw) (rs4.wr g1 ⟨_, upd_same, RK.put (r4.mono lw) (RK.mono lw g4)⟩) (re.mono (ll.trans lw)) m4.2
        · exact m4.elim
      · exact m2.elim
    · exact m2.elim⟩
/-- xs.extend(ys) -/
def gExtend : List D → List D → Option (D × List D) := fun xs ds => match ds with
  | [.lst ys] => some (.non, xs ++ ys)
  | _ => none
theorem je_extend {ap cp : Pos} (ho : JE X o mo) (ha : JA X [e] false_or_by_contra) (hb : attributeBase o "extend" X.env (eval o X.env) = eval o X.env := by rfl)
    (hf : ((backTo cp (starEach [e] X.env)).all (fun x => !x.1) && (backToKw cp (keywordEach [] X.env)).all (fun x => x.1.isSome) && decide ([e].length + ([] : List Keyword).length + (if ([] : List Keyword).isEmpty then 0 else 1) < 30)) = true := by rfl)
    (hl : (ap.endLine == cp.line) = true := by rfl) (hs : starEach [e] X.env = (false, eval e X.env) :: starEach [] X.env := by rfl) (hp : (backTo cp (starEach [] X.env)).any (·.1) = false := by rfl) : JE X (.Call (.Attribute o "extend" ap) [e] [] cp) (mMeth gExtend mo false_or_by_contra) :=
  ⟨fun Wx tk => pe_imp (pe_bm PySem.F.plainAttrs_list PySem.F.slot_list_extend PySem.F.type_list_extend mt_extend (ho.pe Wx tk) (ha.pa Wx tk) hb hf hl hs hp) fun _ _ _ h => meth_of (X := X) (r := rExtend) (fun W a vs us xs ds d ys Q h1 h2 h3 h4 h5 h6 => by
    unfold gExtend at h4
    split at h4
    · cases h4
      cases h3 with
      | cons r3 r4 =>
        cases r4
        cases r3 with
        | lst g1 g2 g3 =>
          refine ⟨a, _, vs, _, rfl, rfl, h1, g1, ?_, h6 .non _ .non (h2.app g3)⟩
          rw [h2.length, g3.length]
          rw [List.length_append] at h5
          exact small_line h5
    · cases h4) h⟩
end
theorem hu65_of {k : Nat} {A : Around} (r : Room k A) : A.units + 65 < cLine := by have := r.un; omega
end Mir
end

section
set_option Elab.async false
set_option linter.all false
set_option maxRecDepth 100000
set_option maxHeartbeats 401000
/-! Steps on dicts. -/
namespace Mir
open PySem L2
section
variable {S : Store} {k : D → Prop} {Q : D → Store → Prop} {X : XC} {ρ : Mir.Env} {M : ME}
def dpK (M : ME) (ρ : Mir.Env) (o v : D) : D → Store → Prop := fun i S3 => match dkS S3 o, keyD i with
  | some (l, kvs), some q => small kvs.length ∧ M.nx ρ (put S3 l (.dk (stor kvs q v)))
  | _, _ => False
theorem dput_at {mo mi mv : Mr D} (h : mv ρ S (fun v S1 => mo ρ S1 (fun o S2 => mi ρ S2 (dpK M ρ o v) (M.x ρ)) (M.x ρ)) (M.x ρ)) : mDPut mo mi mv M ρ S := h
theorem dkS_r {l : Nat} {kvs : List (Key × D)} (e : S l = some (.dk kvs)) : dkS S (.ref l) = some (l, kvs) := by simp only [dkS, e, Option.bind_some]
theorem dpK_i {l : Nat} {kvs : List (Key × D)} {v : D} {j : Int} (e : S l = some (.dk kvs)) (hs : kvs.length ≤ 100000) (h : M.nx ρ (put S l (.dk (stor kvs (.inl j) v)))) : dpK M ρ (.ref l) v (.int j) S := by
  unfold dpK
  rw [dkS_r e]
  exact ⟨hs, h⟩
theorem dpK_s {l : Nat} {kvs : List (Key × D)} {v : D} {j : Str} (e : S l = some (.dk kvs)) (hs : kvs.length ≤ 100000) (h : M.nx ρ (put S l (.dk (stor kvs (.inr j) v)))) : dpK M ρ (.ref l) v (.str j) S := by
  unfold dpK
  rw [dkS_r e]
  exact ⟨hs, h⟩
def itK (q : Pk → Store → Prop) : D → Store → Prop := fun d S1 => match d with
  | .dct ks ds => q (itD ks ds, fun _ => True) S1
  | _ => False
theorem items_to {me : Mr D} {q : Pk → Store → Prop} (h : me ρ S (itK q) X) : mItems me ρ S q X := h
theorem itK_d {q : Pk → Store → Prop} {ks : List Key} {ds : List D} (h : q (itD ks ds, fun _ => True) S) : itK q (.dct ks ds) S := h
theorem dat_r {l : Nat} {kvs : List (Key × D)} {d : D} {j : Str} (e : S l = some (.dk kvs)) (h1 : look kvs (.inr j) = some d) (h : k d) : fDAt (.ref l) (.str j) S k := by
  have e2 : dkR S (.ref l) = some kvs := by simp only [dkR, e, Option.bind_some]
  unfold fDAt
  rw [e2]
  dsimp only [keyD]
  rw [h1]
  exact h
def daK (f : F2) (M : ME) (ρ : Mir.Env) (o : D) (me : Mr D) : D → Store → Prop := fun i S2 => match dkS S2 o, keyD i with
  | some (_, kvs), some q => match look kvs q with
    | some x => me ρ S2 (fun y S3 => f x y S3 fun z => match dkS S3 o with
      | some (l, kvs3) => small kvs3.length ∧ M.nx ρ (put S3 l (.dk (stor kvs3 q z)))
      | none => False) (M.x ρ)
    | none => False
  | _, _ => False
theorem daug_at {f : F2} {mo mi me : Mr D} (h : mo ρ S (fun o S1 => mi ρ S1 (daK f M ρ o me) (M.x ρ)) (M.x ρ)) : mDAug f mo mi me M ρ S := h
theorem daK_s {f : F2} {me : Mr D} {l : Nat} {kvs : List (Key × D)} {x : D} {j : Str} (e : S l = some (.dk kvs)) (h1 : look kvs (.inr j) = some x)
    (h : me ρ S (fun y S3 => f x y S3 fun z => ∃ kvs3, S3 l = some (.dk kvs3) ∧ kvs3.length ≤ 100000 ∧ M.nx ρ (put S3 l (.dk (stor kvs3 (.inr j) z)))) (M.x ρ)) : daK f M ρ (.ref l) me (.str j) S := by
  unfold daK
  rw [dkS_r e]
  dsimp only [keyD]
  rw [h1]
  have key : (fun (y : D) (S3 : Store) => f x y S3 fun z => ∃ kvs3, S3 l = some (.dk kvs3) ∧ kvs3.length ≤ 100000 ∧ M.nx ρ (put S3 l (.dk (stor kvs3 (.inr j) z)))) = fun y S3 => f x y S3 fun z => match dkS S3 (.ref l) with
      | some (l, kvs3) => small kvs3.length ∧ M.nx ρ (put S3 l (.dk (stor kvs3 (.inr j) z)))
      | none => False := by
    funext y S3
    congr 1
    funext z
    cases hS : S3 l with
    | none => simp [dkS, hS]
    | some o =>
      cases o with
      | dk kv => simp [dkS, hS, small]
      | _ => simp [dkS, hS]
  rw [key] at h
  exact h
theorem addI_ii {i j : Int} (h : k (.int (i + j))) : fAddI (.int i) (.int j) S k := h
theorem aug_at {i : Nat} {f : F2} {me : Mr D} {x : D} (e : ρ[i]? = some (some x)) (h : me ρ S (fun y S1 => f x y S1 fun z => M.nx (ρ.set i (some z)) S1) (M.x ρ)) : mAug i f me M ρ S := by
  unfold mAug
  rw [e]
  exact h
end

end Mir
end

open PySem L2 Mir
local macro_rules
  | `(tactic| ac_rfl) => `(tactic| repeat (first
  | with_reducible refine seq_at ?_ | with_reducible refine new_at ?_
  | with_reducible refine op_at ?_ | with_reducible refine cons_at ?_ | with_reducible refine nil_at ?_ | with_reducible refine var_at rfl ?_ | with_reducible refine c_at ?_ | with_reducible refine app_at ?_ | with_reducible refine call_at ?_
  | with_reducible refine tup_at ?_ | with_reducible refine lst_at ?_ | with_reducible refine t_at ?_ | with_reducible refine not_at ?_ | with_reducible refine or_at ?_ | with_reducible refine and_at ?_ | with_reducible refine ite_at ?_ | with_reducible refine ret_at ?_
  | with_reducible refine set_at ?_ | with_reducible refine asg_at ?_ | with_reducible refine drop_at ?_ | with_reducible refine next_at ?_ | with_reducible refine par_at ?_ | with_reducible refine isB_at ?_ | with_reducible refine if_t ?_ | with_reducible refine if_f ?_ | with_reducible refine if_nt ?_ | with_reducible refine if_nf ?_
  | with_reducible refine un_at ?_ | with_reducible refine mif_at ?_ | with_reducible refine andv_at ?_ | with_reducible refine avK_t ?_ | with_reducible refine avK_f ?_ | with_reducible refine orv_at ?_ | with_reducible refine ovK_t ?_ | with_reducible refine ovK_f ?_
  | with_reducible refine notv_at ?_ | with_reducible refine nvK_t ?_ | with_reducible refine nvK_f ?_ | with_reducible refine nvK_b ?_ | with_reducible refine chn_at ?_ | with_reducible refine chK_t ?_ | with_reducible refine chK_f ?_ | with_reducible refine isi_to ?_
  | with_reducible refine isiK_v rfl rfl ?_ | with_reducible refine slice_at ?_ | with_reducible refine nop_at ?_ | with_reducible refine p_at ?_ | with_reducible refine pK_i ?_ | with_reducible refine gn_at ?_ | with_reducible refine gni_at ?_ | with_reducible refine gco_at ?_
  | with_reducible refine gq_t rfl ?_ | with_reducible refine gq_l rfl ?_ | with_reducible refine is2_at ?_
  | with_reducible refine sub_ii ?_ | with_reducible refine add_ii ?_ | with_reducible refine neg_i ?_ | with_reducible refine lt_ii ?_ | with_reducible refine gt_ii ?_ | with_reducible refine ge_ii ?_ | with_reducible refine le_ii ?_
  | with_reducible refine eq_ii ?_ | with_reducible refine ne_ii ?_ | with_reducible refine eq_bb ?_ | with_reducible refine ne_bb ?_ | with_reducible refine is_n ?_ | with_reducible refine isnot_n ?_ | with_reducible refine is_b ?_ | with_reducible refine isnot_b ?_
  | with_reducible refine ix_l atI_0 ?_ | with_reducible refine ix_t atI_0 ?_ | with_reducible refine ix_l atI_1 ?_ | with_reducible refine ix_t atI_1 ?_ | with_reducible refine ix_l atI_2 ?_ | with_reducible refine ix_t atI_2 ?_ | with_reducible refine ix_l atI_3 ?_ | with_reducible refine ix_t atI_3 ?_
  | with_reducible refine len_l ?_ | with_reducible refine len_t ?_ | with_reducible refine len_f ?_ | with_reducible refine tuple_l ?_ | with_reducible refine tuple_t ?_ | with_reducible refine list_l ?_ | with_reducible refine list_t ?_
  | with_reducible refine int_b ?_ | with_reducible refine int_i ?_ | with_reducible refine two_ii ?_ | with_reducible refine cut_tt ?_ | with_reducible refine cut_ll ?_
  | with_reducible refine for_at ?_ | with_reducible refine wk_to ?_ | with_reducible refine wkK_t ?_ | with_reducible refine wkK_l ?_ | with_reducible refine enum_at ?_ | with_reducible refine enK_t ?_ | with_reducible refine enK_l ?_
  | with_reducible refine mod_ii (by decide) ?_ | with_reducible refine pow_ii (cpow (by decide) (by decide) (by decide)) ?_
  | with_reducible refine small_at (by first | decide | (simp only [List.length_cons, List.length_nil]; decide) | omega) ?_ | with_reducible refine len_at rfl ?_
  | with_reducible refine dput_at ?_ | with_reducible refine items_to ?_ | with_reducible refine itK_d ?_ | with_reducible refine daug_at ?_ | with_reducible refine addI_ii ?_ | with_reducible refine zip_at ?_))

section
set_option Elab.async false
set_option linter.all false
set_option maxRecDepth 100000
set_option maxHeartbeats 401000
/-! Comprehensions with a test; loops over two items. -/
namespace Mir
open PySem L2
theorem lc_flt_go {t : Tg} {c : Mr Bool} {e : Mr D} {l : Nat} {Kp : Store → Prop} {ρ : Mir.Env} {S : Store} {Q : Store → Prop} (P : D → Bool) (f : D → D) (hK : ∀ acc, Kp (put S l (.lst acc))) : ∀ {ds acc : List D}, acc.length + ds.length ≤ 100000 →
    (∀ d ∈ ds, ∀ (acc' : List D) (Q' : Bool → Store → Prop) (X : XC), Q' (P d) (put S l (.lst acc')) → match t.b d ρ with
      | some ρ1 => c ρ1 (put S l (.lst acc')) Q' X
      | none => False) →
    (∀ d ∈ ds, P d = true → ∀ (acc' : List D) (Q' : D → Store → Prop) (X : XC), Q' (f d) (put S l (.lst acc')) → match t.b d ρ with
      | some ρ1 => e ρ1 (put S l (.lst acc')) Q' X
      | none => False) →
    Q (put S l (.lst (acc ++ (ds.filter P).map f))) → goLc t c e l Kp ρ ds (put S l (.lst acc)) Q
  | [], acc, _, _, _, h => ⟨hK acc, by
      rw [List.filter_nil, List.map_nil, List.append_nil] at h
      exact h⟩
  | d :: ds, acc, hs, st, el, h => ⟨hK acc, by
      rw [List.length_cons] at hs
      have z := st d List.mem_cons_self acc (fun b S1 => if b = true then e ((t.b d ρ).getD ρ) S1 (fun y S2 => match S2 l with
        | some (.lst acc) => small (acc.length + 1) ∧ goLc t c e l Kp ρ ds (put S2 l (.lst (acc ++ [y]))) Q
        | _ => False) (fun _ _ _ => False) else goLc t c e l Kp ρ ds S1 Q) (fun _ _ _ => False) (by
          cases hp : P d with
          | false =>
            rw [if_neg (by decide)]
            rw [List.filter_cons_of_neg (by rw [hp]; decide)] at h
            exact lc_flt_go P f hK (by omega) (fun d' hd' => st d' (List.mem_cons_of_mem _ hd')) (fun d' hd' => el d' (List.mem_cons_of_mem _ hd')) h
          | true =>
            rw [if_pos rfl]
            rw [List.filter_cons_of_pos hp, List.map_cons] at h
            have y := el d List.mem_cons_self hp acc (fun y S2 => match S2 l with
              | some (.lst acc) => small (acc.length + 1) ∧ goLc t c e l Kp ρ ds (put S2 l (.lst (acc ++ [y]))) Q
              | _ => False) (fun _ _ _ => False) (by
                rw [put_same]
                refine ⟨show _ ≤ 100000 by omega, ?_⟩
                rw [put_put]
                refine lc_flt_go P f hK (by rw [List.length_append, List.length_singleton]; omega) (fun d' hd' => st d' (List.mem_cons_of_mem _ hd')) (fun d' hd' => el d' (List.mem_cons_of_mem _ hd')) ?_
                rw [List.append_assoc]
                exact h)
            split at y
            · rename_i ρ1 e1
              rw [e1]
              exact y
            · exact y.elim)
      split
      · rename_i e1
        rw [e1] at z
        exact z
      · rename_i ρ1 e1
        rw [e1] at z
        exact z⟩
theorem lc_flt {it : Mr Pk} {t : Tg} {vs : List Nat} {c : Mr Bool} {e : Mr D} {ρ : Mir.Env} {S : Store} {Q : D → Store → Prop} {X : XC} (ds : List D) (Kp : Store → Prop) (P : D → Bool) (f : D → D) (hi : ∀ Q' : Pk → Store → Prop, Q' (ds, Kp) S → it ρ S Q' X) (hs : ds.length ≤ 100000)
    (hK : ∀ l, S l = none → ∀ acc, Kp (put S l (.lst acc)))
    (st : ∀ l, S l = none → ∀ d ∈ ds, ∀ (acc' : List D) (Q' : Bool → Store → Prop) (X : XC), Q' (P d) (put S l (.lst acc')) → match t.b d (wipM ρ vs) with
      | some ρ1 => c ρ1 (put S l (.lst acc')) Q' X
      | none => False)
    (el : ∀ l, S l = none → ∀ d ∈ ds, P d = true → ∀ (acc' : List D) (Q' : D → Store → Prop) (X : XC), Q' (f d) (put S l (.lst acc')) → match t.b d (wipM ρ vs) with
      | some ρ1 => e ρ1 (put S l (.lst acc')) Q' X
      | none => False)
    (fin : Q (.lst ((ds.filter P).map f)) S) : mLc it t vs c e ρ S Q X := by
  refine hi _ fun l hl => lc_flt_go P f (hK l hl) (by simpa using hs) (st l hl) (el l hl) ?_
  rw [put_same]
  dsimp only
  rw [del_put hl, List.nil_append]
  exact fin
theorem lcN_flt {it : Mr Pk} {t : Tg} {vs : List Nat} {c : Mr Bool} {e : Mr D} {ρ : Mir.Env} {S : Store} {Q : D → Store → Prop} {X : XC} (ds : List D) (Kp : Store → Prop) (P : D → Bool) (f : D → D) (hi : ∀ Q' : Pk → Store → Prop, Q' (ds, Kp) S → it ρ S Q' X) (hs : ds.length ≤ 100000)
    (hK : ∀ l, S l = none → ∀ acc, Kp (put S l (.lst acc)))
    (st : ∀ l, S l = none → ∀ d ∈ ds, ∀ (acc' : List D) (Q' : Bool → Store → Prop) (X : XC), Q' (P d) (put S l (.lst acc')) → match t.b d (wipM ρ vs) with
      | some ρ1 => c ρ1 (put S l (.lst acc')) Q' X
      | none => False)
    (el : ∀ l, S l = none → ∀ d ∈ ds, P d = true → ∀ (acc' : List D) (Q' : D → Store → Prop) (X : XC), Q' (f d) (put S l (.lst acc')) → match t.b d (wipM ρ vs) with
      | some ρ1 => e ρ1 (put S l (.lst acc')) Q' X
      | none => False)
    (fin : ∀ l, S l = none → Q (.ref l) (put S l (.lst ((ds.filter P).map f)))) : mLcN it t vs c e ρ S Q X := by
  refine hi _ fun l hl => lc_flt_go P f (hK l hl) (by simpa using hs) (st l hl) (el l hl) ?_
  rw [put_same]
  dsimp only
  rw [List.nil_append]
  exact fin l hl
theorem for_two {g : MG} {body : MS} {M : ME} {ρ : Mir.Env} {S : Store} {d1 d2 : D} (h : g d1 ρ S fun ρ1 S1 => body { M with nx := fun ρ2 S2 => g d2 ρ2 S2 fun ρ3 S3 => body { M with nx := M.nx, ct := M.nx, bk := M.nx } ρ3 S3, ct := fun ρ2 S2 => g d2 ρ2 S2 fun ρ3 S3 => body { M with nx := M.nx, ct := M.nx, bk := M.nx } ρ3 S3, bk := M.nx } ρ1 S1) : goFor g body (fun _ => True) [d1, d2] M ρ S := by
  refine ⟨trivial, ?_⟩
  have e1 : goFor g body (fun _ => True) [] M = M.nx := by
    funext ρ S
    exact propext ⟨fun z => z.2, fun z => ⟨trivial, z⟩⟩
  have e2 : goFor g body (fun _ => True) [d2] M = fun ρ2 S2 => g d2 ρ2 S2 fun ρ3 S3 => body { M with nx := M.nx, ct := M.nx, bk := M.nx } ρ3 S3 := by
    funext ρ S
    refine propext ⟨fun z => ?_, fun z => ⟨trivial, ?_⟩⟩
    · have := z.2
      rw [e1] at this
      exact this
    · rw [e1]
      exact z
  rw [e2]
  exact h
section
variable {S : Store} {Q : D → Store → Prop} {X : XC} {ρ : Mir.Env} {M : ME}
/-- range(n) -/
def rgK (q : Pk → Store → Prop) : List D → Store → Prop := fun ds S1 => match ds with
  | [.int n] => (-1000000 ≤ n ∧ n ≤ 1000000) ∧ q (rgD 0 n.toNat, fun _ => True) S1
  | _ => False
theorem rg1_to {false_or_by_contra : Mr (List D)} {q : Pk → Store → Prop} (h : false_or_by_contra ρ S (rgK q) X) : mRg1 false_or_by_contra ρ S q X := h
theorem rgK_n {n : Nat} {q : Pk → Store → Prop} (hn : n ≤ 1000000) (h : q ((List.range n).map fun (i : Nat) => D.int i, fun _ => True) S) : rgK q [.int n] S := by
  refine ⟨⟨by omega, by omega⟩, ?_⟩
  have e : rgD 0 ((n : Int)).toNat = (List.range n).map fun (i : Nat) => D.int i := by
    unfold rgD
    rw [Int.toNat_natCast]
    refine List.map_congr_left fun i _ =>
        ?_
    rw [Int.zero_add]
  rw [e]
  exact h
theorem rng_get {n i : Nat} {d : D} (h : ((List.range n).map fun (i : Nat) => D.int i)[i]? = some d) : i < n ∧ d = .int i := by
  rw [List.getElem?_map] at h
  by_cases hi : i < n
  · rw [List.getElem?_range hi] at h
    cases h
    exact ⟨hi, rfl⟩
  · rw [List.getElem?_eq_none (by rw [List.length_range]; omega)] at h
    cases h
end
end Mir
end

section
set_option Elab.async false
set_option linter.all false
set_option maxRecDepth 100000
set_option maxHeartbeats 401000
/-! Products, quotients; methods of a living list that a name bears; its items stored. -/
namespace Mir
open PySem L2
section
variable {S : Store} {k : D → Prop} {Q : D → Store → Prop} {X : XC} {ρ : Mir.Env} {M : ME}
theorem mul_ii {i j : Int} (hc : CMul i j) (h : k (.int (i * j))) : fMul (.int i) (.int j) S k := ⟨hc, h⟩
theorem mul_r {i j : Int} (h1 : -18446744073709551616 < j) (h2 : j < 18446744073709551616) (h : k (.int (i * j))) : fMul (.int i) (.int j) S k := ⟨.inr ⟨h1, h2⟩, h⟩
theorem mul_l {i j : Int} (h1 : -18446744073709551616 < i) (h2 : i < 18446744073709551616) (h : k (.int (i * j))) : fMul (.int i) (.int j) S k := ⟨.inl ⟨h1, h2⟩, h⟩
theorem div_ii {i j : Int} (h0 : j ≠ 0) (h1 : j.natAbs < 1073741824) (h : k (.int (i.fdiv j))) : fDiv (.int i) (.int j) S k := ⟨⟨h0, h1⟩, h⟩
theorem lstS_eq {l : Nat} {xs : List D} (e : S l = some (.lst xs)) : lstS S (.ref l) = some (l, xs) := by simp only [lstS, e, Option.bind_some]
def mtK (g : List D → List D → Option (D × List D)) (l : Nat) (Q : D → Store → Prop) : List D → Store → Prop := fun ds S2 => match lstS S2 (.ref l) with
  | none => False
  | some (l, xs) => match g xs ds with
    | none => False
    | some (d, ys) => small ys.length ∧ Q d (put S2 l (.lst ys))
theorem meth_var {g : List D → List D → Option (D × List D)} {i l : Nat} {xs : List D} {false_or_by_contra : Mr (List D)} (hi : ρ[i]? = some (some (.ref l))) (e : S l = some (.lst xs)) (h : false_or_by_contra ρ S (mtK g l Q) X) : mMeth g (mVar i) false_or_by_contra ρ S Q X := by
  refine var_at hi ?_
  rw [lstS_eq e]
  exact h
theorem mtK_at {g : List D → List D → Option (D × List D)} {l : Nat} {xs ys ds : List D} {d : D} (e : S l = some (.lst xs)) (hg : g xs ds = some (d, ys)) (hs : ys.length ≤ 100000) (h : Q d (put S l (.lst ys))) : mtK g l Q ds S := by
  unfold mtK
  rw [lstS_eq e]
  dsimp only
  rw [hg]
  exact ⟨hs, h⟩
def gxK (d : D) (ρ : Mir.Env) (q : Mir.Env → Store → Prop) (o : D) : D → Store → Prop := fun i S2 => match o, i with
  | .ref l, .int j => match S2 l with
    | some (.lst xs) => match ixN xs.length j with
      | some k => q ρ (put S2 l (.lst (xs.set k d)))
      | none => False
    | _ => False
  | _, _ => False
theorem gix_at {mo mi : Mr D} {d : D} {q : Mir.Env → Store → Prop} (h : mo ρ S (fun o S1 => mi ρ S1 (gxK d ρ q o) fun _ _ _ => False) fun _ _ _ => False) : gIx mo mi d ρ S q := h
theorem ixN_nat {n i : Nat} (h : i < n) : ixN n (i : Int) = some i := by
  unfold ixN
  first
    | (rw [if_neg (by omega), if_pos (by omega)]; simp)
    | (simp; omega)
theorem gxK_r {d : D} {q : Mir.Env → Store → Prop} {l i : Nat} {xs : List D} (e : S l = some (.lst xs)) (hi : i < xs.length) (h : q ρ (put S l (.lst (xs.set i d)))) : gxK d ρ q (.ref l) (.int i) S := by
  unfold gxK
  dsimp only
  rw [e]
  dsimp only
  rw [ixN_nat hi]
  exact h
def prK (i j : Nat) (M : ME) (ρ : Mir.Env) : List D → Store → Prop := fun ds S1 => match ds with
  | [d, d'] => M.nx ((ρ.set i (some d)).set j (some d')) S1
  | _ => False
def lrK (Q : D → Store → Prop) : D → Store → Prop := fun d S1 => match d with
  | .int n => (-1000000 ≤ n ∧ n ≤ 1000000) ∧ ∀ l, S1 l = none → Q (.ref l) (put S1 l (.lst (rgD 0 (n - 0).toNat)))
  | _ => False
theorem listRgN_at {me : Mr D} (h : me ρ S (lrK Q) X) : mListRgN me ρ S Q X := h
theorem lrK_n {n : Nat} (hn : n ≤ 1000000) (h : ∀ l, S l = none → Q (.ref l) (put S l (.lst ((List.range n).map fun (i : Nat) => D.int i)))) : lrK Q (.int n) S := by
  refine ⟨⟨by omega, by omega⟩, fun l hl => ?_⟩
  have e : rgD 0 ((n : Int) - 0).toNat = (List.range n).map fun (i : Nat) => D.int i := by
    unfold rgD
    rw [Int.sub_zero, Int.toNat_natCast]
    refine List.map_congr_left fun i _ =>
        ?_
    rw [Int.zero_add]
  rw [e]
  exact h l hl
def fzK (Q : D → Store → Prop) : D → Store → Prop := fun d S1 => match d with
  | .ref l => match S1 l with
    | some (.lst xs) => Q (.lst xs) (del S1 l)
    | _ => False
  | d => Q d S1
theorem frz_at {me : Mr D} (h : me ρ S (fzK Q) X) : mFrz me ρ S Q X := h
theorem fzK_r {l : Nat} {xs : List D} (e : S l = some (.lst xs)) (h : Q (.lst xs) (del S l)) : fzK Q (.ref l) S := by
  unfold fzK
  dsimp only
  rw [e]
  exact h
end
end Mir
end

section
set_option Elab.async false
set_option linter.all false
set_option maxRecDepth 100000
set_option maxHeartbeats 1001000
/-! t[::-1], t a tuple. -/
namespace Mir
open L2 PyProof.Rows PySem PySem.Spec
theorem fm_same {α β : Type} {f g : α → Option β} : ∀ {l : List α}, (∀ x ∈ l, f x = g x) → l.filterMap f = l.filterMap g
  | [], _ => rfl
  | a :: l, h => by
    rw [List.filterMap_cons, List.filterMap_cons, h a List.mem_cons_self, fm_same fun x hx => h x (List.mem_cons_of_mem _ hx)]
theorem backPick (xs : Array Value) : ((List.range xs.size).filterMap fun (m : Nat) => xs[(((xs.size : Int) - 1) + (m : Int) * (-1)).toNat]?).toArray = xs.toList.reverse.toArray := by
  congr 1
  have e : ((List.range xs.size).filterMap fun (m : Nat) => xs[(((xs.size : Int) - 1) + (m : Int) * (-1)).toNat]?) = (List.range xs.size).filterMap fun m => xs.toList.reverse[m]? := by
    refine fm_same fun m hm => ?_
    have hm := List.mem_range.mp hm
    rw [List.getElem?_reverse (by rw [Array.length_toList]; exact hm), Array.getElem?_toList, Array.length_toList]
    congr 1
    omega
  rw [e]
  have key : ∀ (l : List Value), ((List.range l.length).filterMap fun m => l[m]?) = l := by
    intro l
    induction l with
    | nil => rfl
    | cons a l ih =>
      rw [List.length_cons, List.range_succ_eq_map, List.filterMap_cons, List.filterMap_map]
      simp only
          [List.getElem?_cons_zero]
      congr 1
  have k := key xs.toList.reverse
  rw [List.length_reverse, Array.length_toList] at k
  exact k
theorem adjust_back (n : Nat) : Builtin.Slice.sliceAdjust none none (-1) (n : Int) = ((n : Int) - 1, -1) := by
  unfold
      Builtin.Slice.sliceAdjust
  simp
theorem places_back (n : Nat) : Builtin.Slice.slicePlaces ((n : Int) - 1) (-1) (-1) = n := by
  unfold
      Builtin.Slice.slicePlaces
  simp
  omega
section
variable {prog : Program} {w : World} {A :
    Around} {E : Value → Shared → Prop} {s : Shared}
theorem back_applied {sl : Addr} {vl vu vs : Value} {n : Nat} {Q : Int × Int × Nat → Shared → Prop} (hs : s.heap.IsSliceOf sl vl vu vs) (pl : IsPart vl none) (pu : IsPart vu none) (ps : IsPart vs (some (-1)))
    (h : Q ((n : Int) - 1, -1, n) s) : wpAny (model prog w) A (Builtin.Slice.sliceApplied (.ref sl) (pure (n : Int))) Q E s := by
  obtain ⟨oS, e1, e2, e3⟩ := id hs
  unfold Builtin.Slice.sliceApplied
      Builtin.Slice.sliceFields
  refine wpAny_bind (wpAny_bind (wpAny_field e1 e3 (x := vl) rfl ?_))
  refine wpAny_bind (wpAny_field e1 e3 (x := vu) rfl ?_)
  refine wpAny_bind (wpAny_field e1 e3 (x := vs) rfl (wpAny_pure ?_))
  refine wpAny_bind (HT.slicePart_ ps ?_)
  show wpAny _ _ (if ((-1 : Int) == 0) = true then _ else _) _ _ s
  rw [if_neg (by decide)]
  refine wpAny_bind (HT.slicePart_ pl ?_)
  refine wpAny_bind (HT.slicePart_ pu (wpAny_bind (wpAny_pure ?_)))
  show wpAny _ _ (match Builtin.Slice.sliceAdjust none none (-1) (n : Int) with | (lo, hi) => pure (lo, (-1 : Int), Builtin.Slice.slicePlaces lo hi (-1))) _ _ s
  rw [adjust_back]
  show wpAny _ _ (pure ((n : Int) - 1, (-1 : Int), Builtin.Slice.slicePlaces ((n : Int) - 1) (-1) (-1))) _ _ s
  rw [places_back]
  exact wpAny_pure h
theorem back_tuple {t sl : Addr} {xs : Array Value} {vl vu vs : Value} {Q : Value → Shared → Prop} (ht : IsTup s.heap t xs) (hs : s.heap.IsSliceOf sl vl vu vs) (pl : IsPart vl none) (pu : IsPart vu none) (ps : IsPart vs (some (-1)))
    (h : Q (.ref s.heap.objs.size) { s with heap := s.heap.push { cls := .type "tuple", data := .seq xs.toList.reverse.toArray } }) (hz : xs.size ≤ sizeLine) : wpAny (model prog w) A (getItem (.ref t) (.ref sl)) Q E s := by
  have ok : sizeOk (.seq xs.toList.reverse.toArray) := by
    show xs.toList.reverse.toArray.size ≤ sizeLine
    rw [List.size_toArray, List.length_reverse, Array.length_toList]
    exact hz
  obtain ⟨oS, e1, e2, e3⟩ := id hs
  have hT : s.TypeIs (.ref sl) "slice" := ⟨oS, e1, e2⟩
  unfold getItem
  (try with_reducible refine wpAny_holding ?_); (first | refine wpAny_bind (wpAny_pure ?_) | skip)
  refine wpAny_bind (wpAny_sequenceKey ht.typeIs (by decide)
      ?_)
  refine wpAny_bind (wpAny_callSpecial?_slot (name :=
      Str.ofString "__getitem__") ht.typeIs PyProof.Rows.slot_tuple_getitem
    (wpAny_call_entry PyProof.Rows.slot_tuple_getitem
        ht.typeIs entry_tuple_getitem ?_ (args_tuple_getitem _ _)))
  show wpAny _ _ (Builtin.Tuple.tupleItemsOf (.ref t)
      >>= _) _ _ s
  refine wpAny_bind
      (tupleItemsOf_ ht ?_)
  refine wpAny_bind
      (wpAny_typeOf hT ?_)
  rw [if_pos (by decide)]
  refine wpAny_bind (back_applied hs pl pu ps ?_)
  show wpAny _ _ (if (((xs.size : Int) - 1) == 0 && (-1 : Int) == 1 && xs.size == xs.size) = true then _ else _) _ _ s
  rw [if_neg (by
    rw [show ((-1 : Int) == 1) = false from rfl, Bool.and_false, Bool.false_and]
    exact Bool.false_ne_true), backPick]
  first
    | exact wpAny_bind (m := Builtin.Tuple.tupleExact _) (wpAny_newObj_type (wpAny_pure ⟨_, rfl, wpAny_pure h⟩) ok)
    | exact wpAny_bind (m := Builtin.Tuple.tupleExact _) (wpAny_newObj_type (wpAny_bind (wpAny_pure (wpAny_pure ⟨_, rfl, wpAny_pure h⟩))) ok)
    | exact wpAny_bind (wpAny_bind (m := Builtin.Tuple.tupleExact _) (wpAny_newObj_type (wpAny_pure (wpAny_pure ⟨_, rfl, wpAny_pure h⟩)) ok))
    | exact wpAny_bind (wpAny_bind (m := Builtin.Tuple.tupleExact _) (wpAny_newObj_type (wpAny_pure ⟨_, rfl, wpAny_pure h⟩) ok))
end
section
variable {X : Cx} {e : Expr} {te : TE} {me : Mr D}
def tBack (K : PySem.W.Frag) (te : TE) : TE := fun σ H Q => te σ H fun x H1 => ∃ a xs, x = .ref a ∧ SqT K H1 a xs ∧ ∀ p, H1 p = none → Q (.ref p) (upd H1 p (.tup xs.reverse))
theorem pe_back {k : Nat} {p1 p2 p3 pos : Pos} (he : PE X e te) : PE X (.Subscript e (.Slice none none (some (.UnaryOp .USub (.Constant (.int 1) k p1) p2)) p3) pos) (tBack X.K te) := by
  refine ⟨fun pins s σ H Q I h =>
      ?_⟩
  refine Subscript_ (thn (he.run pins s σ H _ I h) ?_)
  rintro v s1 ⟨x, H1, I1, r1, a, xs, rfl, hx, q⟩
  cases r1
  have minus : PO X (some (.UnaryOp .USub (.Constant (.int 1) k p1) p2)) (tPart (tUn (rU fun i => .int (-i)) (tC (.int 1)))) := po_some (pe_un un_neg pe_int)
  refine wpAny_Slice (thn (po_none.run pins s1 σ H1 (fun o H2 => o = none ∧ H2 = H1) I1 ⟨rfl, rfl⟩) ?_)
  rintro vl s2 ⟨l, H2, I2, pl, rfl, rfl⟩
  refine thn (po_none.run pins s2 σ H2 (fun o H3 => o = none ∧ H3 = H2) I2 ⟨rfl, rfl⟩) ?_
  rintro vu s3 ⟨u, H3, I3, pu, rfl, rfl⟩
  refine thn (minus.run pins s3 σ H3 (fun o H4 => o = some (-1) ∧ H4 = H3) I3 ⟨1, rfl, -1, rfl, rfl, rfl⟩) ?_
  rintro vs s4 ⟨o, H4, I4, ps, rfl, rfl⟩
  have J5 : Inv X pins σ H4 { s4 with heap := s4.heap.push { cls := .type "slice", data := .fields #[vl, vu, vs] } } := I4.kept (t' := s4.toks) fun b ob q => Heap.get?_push_of_some _ q
  obtain ⟨its, r, ht, hz⟩ := J5.tuple hx
  have hl := r.length
  show wpAny (model X.prog X.w) X.A (subscriptTail e _ (.ref a) (.ref s4.heap.objs.size)) (EP X pins σ Q) X.xe { s4 with heap := s4.heap.push { cls := .type "slice", data := .fields #[vl, vu, vs] } }
  refine tail_any (ops := [.ref a, .ref s4.heap.objs.size]) ht.typeIs PyProof.Rows.slot_tuple_getitem.lookup ?_ (by with_unfolding_all rfl)
  refine back_tuple ht (Heap.IsSliceOf.new _ vl vu vs) pl pu ps ?_ (by rw [List.size_toArray]; omega)
  refine ⟨.ref _, _, J5.laid (t' := s4.toks) (o := .tup xs.reverse) (fun b ob q => Heap.get?_push_of_some _ q) (Nat.le_refl _) ?_, rfl, q _ (J5.hok.fresh (Nat.le_refl _))⟩
  exact ⟨by rw [List.length_reverse]; exact hz, _, r.reverse, IsTup.new _ _⟩
def mBack (me : Mr D) : Mr D := fun ρ S Q X => me ρ S (fun d S1 => match d with
  | .tup xs => Q (.tup xs.reverse) S1
  | _ => False) X
theorem je_back {k : Nat} {p1 p2 p3 pos : Pos} (he : JE X e me) : JE X (.Subscript e (.Slice none none (some (.UnaryOp .USub (.Constant (.int 1) k p1) p2)) p3) pos) (mBack me) :=
  ⟨fun Wx tk => pe_imp (pe_back (he.pe Wx tk)) fun σ H Q ⟨W, ρ, Qm, Xm, eH, rs, re, xr, k, q⟩ => by
    subst eH
    refine ⟨W, ρ, _, Xm, rfl, rs, re, xr, fun W1 v d l1 rs1 r1 q1 => ?_, q⟩
    split at q1
    · obtain ⟨a, vs, rfl, h1, h2⟩ := tup_of (K := X.K) r1
      exact ⟨a, vs, rfl, h1, (k.mono l1).tup rs1 h2.rev q1⟩
    · exact q1.elim⟩
end
end Mir
end

section
set_option Elab.async false
set_option linter.all false
set_option maxRecDepth 100000
set_option maxHeartbeats 1001000
/-! repr of data in which empty dicts stand. -/
namespace Mir
open L2 PyProof.Rows PySem PySem.Spec
section
variable {prog : Program} {w : World} {h : Heap}
/-- a value is shown as p's text -/
structure Sh (prog : Program) (w : World) (h : Heap) (u : Value) (p : PyData) : Prop where
  rd : ∃ as, Reads h u p as
  rk : ∃ bs, ReadAtMost h p.depth bs ∧ ReprK prog w bs h p.depth u p.shown
structure ShAll (prog : Program) (w : World) (h : Heap) (us : List Value) (ps : List PyData) : Prop where
  rd : ∃ as, ReadsAll h us ps as
  rk : ∃ bs, ReadAtMost h (PyData.depthAll ps) bs ∧ ReprAllK prog w bs h (PyData.depthAll ps) us (PyData.shownAll ps)
theorem ShAll.nil : ShAll prog w h [] [] := ⟨⟨_, .nil⟩, [], (fun _ z => nomatch z), by
  simp only [PyData.shownAll]
  exact .nil⟩
theorem ShAll.cons {u : Value} {us : List Value} {p : PyData} {ps : List PyData} (a : Sh prog w h u p) (r : ShAll prog w h us ps) : ShAll prog w h (u :: us) (p :: ps) := by
  obtain ⟨⟨as, ra⟩, xs, x1, x2⟩ := a
  obtain ⟨⟨bs, rb⟩, ys, y1, y2⟩ := r
  have hx : p.depth ≤ PyData.depthAll (p :: ps) := by simp only [PyData.depthAll]; exact Nat.le_max_left _ _
  have hy : PyData.depthAll ps ≤ PyData.depthAll (p :: ps) := by simp only [PyData.depthAll]; exact Nat.le_max_right _ _
  refine ⟨⟨_, .cons ra rb⟩, xs ++ ys, (x1.mono hx).append (y1.mono hy), ?_⟩
  rw [show PyData.shownAll (p :: ps) = p.shown :: PyData.shownAll ps by simp only [PyData.shownAll]]
  exact .cons ((x2.more fun b z => List.mem_append_left _ z).level_le hx) (y2.more_le (fun b z => List.mem_append_right _ z) hy)
theorem sh_of {u : Value} {p : PyData} {as : List Addr} (r : Reads h u p as) (hd : p.hasDict = false) (hs : p.showable = true) (hz : p.shown.length ≤ sizeLine) : Sh prog w h u p :=
  ⟨⟨as, r⟩, ReprK.of_reads r hs (PyData.noDict_hsm hd) hz⟩
theorem sh_no {a : Addr} {o : Obj} {n : Nat} (h1 : h.get? a = some o) (h2 : o.cls = .type "dict") (h3 : o.data = .dict #[] n) (hm : (a == sysModules) = false) : Sh prog w h (.ref a) (.dict []) := by
  have r : Reads h (.ref a) (.dict []) _ := .dict h1 h2 h3 .nil .nil
  refine ⟨⟨_, r⟩, [a], ReadAtMost.cons (bs := []) r (Nat.zero_le _) (fun b z => by cases z), ?_⟩
  have hk : ReprEntriesK prog w ([] : List Addr) h 0 (#[] : Array DictEntry).toList [] := .nil
  have e : (PyData.dict []).shown = dictText [] := by simp only [PyData.shown, PyData.shownKv]
  rw [e]
  exact (ReprK.dict h1 h2 h3 hm List.not_mem_nil hk).level_le (by simp only [PyData.depth, PyData.depthKv]; exact Nat.le_refl _)
theorem sh_lst {a : Addr} {o : Obj} {vs : List Value} {n : Nat} {ps : List PyData} (h1 : h.get? a = some o) (h2 : o.cls = .type "list") (h3 : o.data = .seq vs.toArray n) (S : ShAll prog w h vs ps) : Sh prog w h (.ref a) (.list ps) := by
  obtain ⟨⟨as, ra⟩, bs, b1, b2⟩ := S
  have r : Reads h (.ref a) (.list ps) (a :: as) := .list h1 h2 h3 ra
  have low : PyData.depthAll ps < (PyData.list ps).depth := by simp only [PyData.depth]; omega
  refine ⟨⟨_, r⟩, a :: bs, ReadAtMost.cons r (Nat.le_of_lt low) b1, ?_⟩
  have e1 : (PyData.list ps).shown = listText (PyData.shownAll ps) := by simp only [PyData.shown]
  have e2 : (PyData.list ps).depth = PyData.depthAll ps + 1 := by simp only [PyData.depth]
  rw [e1, e2]
  cases vs with
  | nil =>
    cases ra
    rw [show PyData.shownAll [] = [] by simp only [PyData.shownAll], listText_nil]
    exact ReprK.listEmpty
        h1 h2 h3
  | cons x l =>
    have len := b2.length_eq
    exact ReprK.list h1 h2 h3 (not_mem_of_deeper r low b1) (by rw [List.size_toArray]; exact len) fun i y q => b2.item i y (by rw [List.getElem?_toArray] at q; exact q)
theorem sh_tup {a : Addr} {o : Obj} {vs : List Value} {n : Nat} {ps : List PyData} (h1 : h.get? a = some o) (h2 : o.cls = .type "tuple") (h3 : o.data = .seq vs.toArray n) (S : ShAll prog w h vs ps) : Sh prog w h (.ref a) (.tuple ps) := by
  obtain ⟨⟨as, ra⟩, bs, b1, b2⟩ := S
  have r : Reads h (.ref a) (.tuple ps) as := .tuple h1 h2 h3 ra
  have low : PyData.depthAll ps < (PyData.tuple ps).depth := by simp only [PyData.depth]; omega
  refine ⟨⟨_, r⟩, a :: bs, ReadAtMost.cons r (Nat.le_of_lt low) b1, ?_⟩
  rw [show (PyData.tuple ps).shown = tupleText (PyData.shownAll ps) by simp only [PyData.shown], show (PyData.tuple ps).depth = PyData.depthAll ps + 1 by simp only [PyData.depth]]
  exact ReprK.tuple h1 h2 h3 (not_mem_of_deeper r low b1) b2
end
mutual
/-- data of a value, empty dicts among them -/
inductive DpZ (K : PySem.W.Frag) (H : Hp) : V → PyData → Prop
  | of {v : V} {p : PyData} : Dp K H v p → DpZ K H v p
  | no {a : Addr} {o : Obj} : H a = some (.frz o (.dK [])) → DpZ K H (.ref a) (.dict [])
  | lst {a : Addr} {xs : List V} {ps : List PyData} : SqL K H a xs → DpZs K H xs ps → DpZ K H (.ref a) (.list ps)
  | tup {a : Addr} {xs : List V} {ps : List PyData} : SqT K H a xs → DpZs K H xs ps → DpZ K H (.ref a) (.tuple ps)
inductive DpZs (K : PySem.W.Frag) (H : Hp) : List V → List PyData → Prop
  | nil : DpZs K H [] []
  | cons {v : V} {vs : List V} {p : PyData} {ps : List PyData} : DpZ K H v p → DpZs K H vs ps → DpZs K H (v :: vs) (p :: ps)
end
section
variable {X : Cx} {pins : List (Addr ×
    Obj)} {σ : L2.St} {H : Hp} {s : Shared}
theorem sh_dp {p : PyData} {v : V} {u : Value} (I : Inv X pins σ H s) (d : Dp X.K H v p) (r : RelV v u) (hs : p.showable = true) (hz : p.shown.length ≤ sizeLine) : Sh X.prog X.w s.heap u p := by
  obtain ⟨as, rd⟩ := Dp.reads I p v u d r
  exact sh_of rd (noDict d) hs hz
mutual
theorem DpZ.sh (I : Inv X pins σ H s) : ∀ (p : PyData) (v : V) (u : Value), DpZ X.K H v p → RelV v u → p.showable = true → p.shown.length ≤ sizeLine → Sh X.prog X.w s.heap u p
  | .none, _, _, .of d, r, hs, hz => sh_dp I d r hs hz
  | .bool _, _, _, .of d, r, hs, hz => sh_dp I d r hs hz
  | .int _, _, _, .of d, r, hs, hz => sh_dp I d r hs hz
  | .str _, _, _, .of d, r, hs, hz => sh_dp I d r hs hz
  | .dict _, _, _, h, r, hs, hz => by
    cases h with
    | of d => exact sh_dp I d r hs hz
    | no e =>
      cases r
      obtain ⟨m, h1, hx, es, ep, vs, h2, h3, _, _⟩ := I.frzK e
      obtain rfl : es = #[] := Array.eq_empty_of_size_eq_zero h3
      exact sh_no h1 hx.1 h2 m
  | .list ps, _, _, h, r, hs, hz => by
    cases h with
    | of d => exact sh_dp I d r hs hz
    | lst hq ha =>
      cases r
      obtain ⟨its, rv, ⟨o, n, h1, h2, _, h3⟩, _⟩ := I.list hq
      have e : (PyData.list ps).shown = listText (PyData.shownAll ps) := by simp only [PyData.shown]
      rw [e] at hz
      exact sh_lst h1 h2 h3 (DpZs.sh I ps _ its ha rv (by simpa [PyData.showable] using hs) fun t ht => Nat.le_trans (listText_mem_le ht) hz)
  | .tuple ps, _, _, h, r, hs, hz => by
    cases h with
    | of d => exact sh_dp I d r hs hz
    | tup hq ha =>
      cases r
      obtain ⟨its, rv, ⟨o, h1, h2, n, h3⟩, _⟩ := I.tuple hq
      have e : (PyData.tuple ps).shown = tupleText (PyData.shownAll ps) := by simp only [PyData.shown]
      rw [e] at hz
      exact sh_tup h1 h2 h3 (DpZs.sh I ps _ its ha rv (by simpa [PyData.showable] using hs) fun t ht => Nat.le_trans (tupleText_mem_le ht) hz)
theorem DpZs.sh (I : Inv X pins σ H s) : ∀ (ps : List PyData) (vs : List V) (us : List Value), DpZs X.K H vs ps → Vals vs us → PyData.showableAll ps = true → (∀ t ∈ PyData.shownAll ps, t.length ≤ sizeLine) → ShAll X.prog X.w s.heap us ps
  | [], _, _, .nil, .nil, _, _ => .nil
  | p :: ps, _, _, .cons d ds, .cons r rs, hs, hz => by
    have hs : p.showable = true ∧ PyData.showableAll ps = true := by simpa [PyData.showableAll] using hs
    have e : PyData.shownAll (p :: ps) = p.shown :: PyData.shownAll ps := by simp only [PyData.shownAll]
    rw [e] at hz
    exact .cons (DpZ.sh I p _ _ d r hs.1 (hz _ List.mem_cons_self)) (DpZs.sh I ps _ _ ds rs hs.2 fun t ht => hz t (List.mem_cons_of_mem _ ht))
end
end
/-! ### repr(e) -/
def rReprZ (K : PySem.W.Frag) : List V → Hp → VK → Prop := fun xs H Q => ∃ (v : V) (p : PyData), xs = [v] ∧ DpZ K H v p ∧ p.showable = true ∧ p.depth ≤ 50 ∧ p.shown.length ≤ sizeLine ∧ Q (.str p.shown) H
section
variable {X : Cx}
theorem call_reprZ (hg : X.A.guards = some []) (hu : X.A.units + 64 < cLine) : CallR X (.builtin "repr") (rReprZ X.K) := by
  rintro pins s σ H xs us Q I r ⟨v, p, rfl, hd, hs, hp, hz, q⟩
  have old : Dp X.K H v p → wpAny (model X.prog X.w) X.A (call (.builtin "repr") us) (EP X pins σ Q) X.xe s := fun d => call_reprD hg hu pins s σ H _ us Q I r ⟨v, p, rfl, d, hs, hp, hz, q⟩
  obtain ⟨u, rfl, ru⟩ :=
      vals1 r
  have fin : ∀ (h' : Heap) (t : Tok) (tk : Nat), (∀ b o, s.heap.get? b = some o → h'.get? b = some o) → EP X pins σ Q (.str p.shown t) { s with heap := h', toks := tk } := fun h' t tk kp => ⟨.str p.shown, H, I.kept kp, ⟨t, rfl⟩, q⟩
  cases hd with
  | of d => exact old d
  | @no a o e =>
    cases ru
    obtain ⟨m, h1, hx, es, ep, vs, h2, h3, _, _⟩ := I.frzK e
    obtain rfl : es = #[] := Array.eq_empty_of_size_eq_zero h3
    have e1 : (PyData.dict []).shown = dictText [] := by simp only [PyData.shown, PyData.shownKv]
    rw [e1] at hz fin
    have hk : ReprEntriesK X.prog X.w ([] : List Addr) s.heap 0 (#[] : Array DictEntry).toList [] := .nil
    refine call_repr_slot (by omega) ⟨o, h1, hx.1⟩ F.slot_dict_repr ?_
    exact call_dict_reprK (A := X.A.in1) h1 hx.1 h2 m List.not_mem_nil hk hg (fun b _ => Clear.nil b) (by show X.A.units + 1 + (0 + 1) < cLine; omega) (fun _ _ z => z) (fun h' t tk kp => ⟨_, _, rfl, fin h' t tk kp⟩) hz
  | @lst a xs ps hq ha =>
    cases ru
    obtain ⟨its, rv, ⟨o, n, h1, h2, _, h3⟩, _⟩ := I.list hq
    have e1 : (PyData.list ps).shown = listText (PyData.shownAll ps) := by simp only [PyData.shown]
    have e2 : (PyData.list ps).depth = PyData.depthAll ps + 1 := by simp only [PyData.depth]
    rw [e1] at hz fin
    rw [e2] at hp
    obtain ⟨⟨as, ra⟩, bs, b1, b2⟩ := DpZs.sh I ps _ its ha rv (by simpa [PyData.showable] using hs) fun t ht => Nat.le_trans (listText_mem_le ht) hz
    have top : Reads s.heap (.ref a) (.list ps) (a :: as) := .list h1 h2 h3 ra
    refine call_repr_slot (by omega) ⟨o, h1, h2⟩ F.slot_list_repr.toG ?_
    cases its with
    | nil =>
      cases ra
      rw [show PyData.shownAll [] = [] by simp only [PyData.shownAll], listText_nil] at fin
      exact call_list_repr_empty ⟨o, h1, h2⟩ h1 h3 ⟨_, _, rfl, fin s.heap _ _ fun _ _ z => z⟩
    | cons x l =>
      exact call_list_reprK (A := X.A.in1) h1 h2 h3 (not_mem_of_deeper top (by rw [e2]; omega) b1) (by rw [List.size_toArray]; exact b2.length_eq) (fun i y q => b2.item i y (by rw [List.getElem?_toArray] at q; exact q)) hg
        (fun b _ => Clear.nil b) (by show X.A.units + 1 + (PyData.depthAll ps + 1) < cLine; omega) (fun _ _ z => z) (fun h' t tk kp => ⟨_, _, rfl, fin h' t tk kp⟩) hz
  | @tup a xs ps hq ha =>
    cases ru
    obtain ⟨its, rv, ⟨o, h1, h2, n, h3⟩, _⟩ := I.tuple hq
    have e1 : (PyData.tuple ps).shown = tupleText (PyData.shownAll ps) := by simp only [PyData.shown]
    have e2 : (PyData.tuple ps).depth = PyData.depthAll ps + 1 := by simp only [PyData.depth]
    rw [e1] at hz fin
    rw [e2] at hp
    obtain ⟨⟨as, ra⟩, bs, b1, b2⟩ := DpZs.sh I ps _ its ha rv (by simpa [PyData.showable] using hs) fun t ht => Nat.le_trans (tupleText_mem_le ht) hz
    have top : Reads s.heap (.ref a) (.tuple ps) as := .tuple h1 h2 h3 ra
    refine call_repr_slot (by omega) ⟨o, h1, h2⟩ F.slot_tuple_repr ?_
    exact call_tuple_reprK (A := X.A.in1) h1 h2 h3 (not_mem_of_deeper top (by rw [e2]; omega) b1) b2 hg (fun b _ => Clear.nil b) (by show X.A.units + 1 + (PyData.depthAll ps + 1) < cLine; omega) (fun _ _ z => z) (fun h' t tk kp => ⟨_, _, rfl, fin h' t tk kp⟩) hz
end
/-! ### .. told of data -/
mutual
def pyZ : D → Option PyData
  | .dct [] [] => some (.dict [])
  | .tup xs => (pyZs xs).map PyData.tuple
  | .lst xs => (pyZs xs).map PyData.list
  | .frz xs => (pyZs xs).map PyData.list
  | d => py d
def pyZs : List D → Option (List PyData)
  | [] => some []
  | d :: ds => (pyZ d).bind fun p => (pyZs ds).map fun q => p :: q
end
def pySZ (S : Store) : D → Option PyData
  | .ref l => (asL S (.ref l)).bind fun xs => (pyZs xs).map PyData.list
  | d => pyZ d
mutual
theorem RD.dpz {K : PySem.W.Frag} {W : Wd} (R : RS K W) : ∀ {d : D} {v : V} {p : PyData}, RD W v d → pyZ d = some p → DpZ K W.H v p
  | .non, _, _, r, h => .of (RD.dp R r h)
  | .bl _, _, _, r, h => .of (RD.dp R r h)
  | .int _, _, _, r, h => .of (RD.dp R r h)
  | .str _, _, _, r, h => .of (RD.dp R r h)
  | .ref _, _, _, r, h => .of (RD.dp R r h)
  | .dctT _ _, _, _, r, h => .of (RD.dp R r h)
  | .tup ds, _, _, .tup h1 _ h3, h => by
    obtain ⟨q, e, rfl⟩ := Option.map_eq_some_iff.mp (show (pyZs ds).map PyData.tuple = some _ by rw [← h, pyZ])
    exact .tup (.inl (.inl h1)) (RDs.dpz R h3 e)
  | .lst ds, _, _, .lst h1 _ h3, h => by
    obtain ⟨q, e, rfl⟩ := Option.map_eq_some_iff.mp (show (pyZs ds).map PyData.list = some _ by rw [← h, pyZ])
    exact .lst (.inl (.inl h1)) (RDs.dpz R h3 e)
  | .frz ds, _, _, .frz h1 h3, h => by
    obtain ⟨q, e, rfl⟩ := Option.map_eq_some_iff.mp (show (pyZs ds).map PyData.list = some _ by rw [← h, pyZ])
    exact .lst (h1.sq R) (RDs.dpz R h3 e)
  | .dct [] [], _, _, .dct h1 _ _ _, h => by
    rw [pyZ] at h
    cases h
    exact .no h1
  | .dct [] (_ :: _), _, _, r, h => .of (RD.dp R r h)
  | .dct (_ :: _) _, _, _, r, h => .of (RD.dp R r h)
theorem RDs.dpz {K : PySem.W.Frag} {W : Wd} (R : RS K W) : ∀ {ds : List D} {vs : List V} {q : List PyData}, RDs W vs ds → pyZs ds = some q → DpZs K W.H vs q
  | [], _, _, .nil, h => by cases h; exact .nil
  | d :: ds, _, _, .cons a r, h => by
    rw [pyZs] at h
    obtain ⟨p, e, h⟩ := Option.bind_eq_some_iff.mp h
    obtain ⟨q, e2, rfl⟩ := Option.map_eq_some_iff.mp h
    exact .cons (RD.dpz R a e) (RDs.dpz R r e2)
end
theorem RD.dpSz {K : PySem.W.Frag} {W : Wd} (rs : RS K W) {d : D} {v : V} {p : PyData} (r : RD W v d) (h : pySZ W.S d = some p) : DpZ K W.H v p := by
  unfold pySZ at h
  split at h
  · obtain ⟨xs, e, h⟩ := Option.bind_eq_some_iff.mp h
    obtain ⟨q, e2, rfl⟩ := Option.map_eq_some_iff.mp h
    obtain ⟨a, vs, rfl, h1, h2⟩ := asL_of (K := K) rs r e
    exact .lst h1 (RDs.dpz rs h2 e2)
  · exact RD.dpz rs r h
def fReprZ : FA := fun ds S k => match ds with
  | [d] => match pySZ S d with
    | some p => p.showable = true ∧ p.depth ≤ 50 ∧ p.shown.length ≤ sizeLine ∧ k (.str p.shown)
    | none => False
  | _ => False
theorem snd_reprZ {K : PySem.W.Frag} : SndA K fReprZ (rReprZ K) := by
  intro W xs ds Q Qm rs r k m
  unfold fReprZ at m
  split at m
  · split at m
    · rename_i p e
      cases r with
      | cons r1 r2 =>
        cases r2
        exact ⟨_, p, rfl, r1.dpSz rs e, m.1, m.2.1, m.2.2.1, k W _ _ (Le.refl W) rs (.str _) m.2.2.2⟩
    · exact m.elim
  · exact m.elim
mutual
theorem pyZ_of : ∀ {d : D} {p : PyData}, py d = some p → pyZ d = some p
  | .non, _, h => h
  | .bl _, _, h => h
  | .int _, _, h => h
  | .str _, _, h => h
  | .ref _, _, h => h
  | .dctT _ _, _, h => h
  | .tup ds, _, h => by
    rw [py] at h
    obtain ⟨q, e, rfl⟩ := Option.map_eq_some_iff.mp h
    rw [pyZ, pyZs_of e]
    rfl
  | .lst ds, _, h => by
    rw [py] at h
    obtain ⟨q, e, rfl⟩ := Option.map_eq_some_iff.mp h
    rw [pyZ, pyZs_of e]
    rfl
  | .frz ds, _, h => by
    rw [py] at h
    obtain ⟨q, e, rfl⟩ := Option.map_eq_some_iff.mp h
    rw [pyZ, pyZs_of e]
    rfl
  | .dct _ _, _, h => by rw [py] at h; cases h
theorem pyZs_of : ∀ {ds : List D} {q : List PyData}, pys ds = some q → pyZs ds = some q
  | [], _, h => h
  | d :: ds, _, h => by
    rw [pys] at h
    obtain ⟨p, e, h⟩ := Option.bind_eq_some_iff.mp h
    obtain ⟨q, e2, rfl⟩ := Option.map_eq_some_iff.mp h
    rw [pyZs, pyZ_of e, pyZs_of e2]
    rfl
end
theorem pySZ_of {S : Store} {d : D} {p : PyData} (h : pyS S d = some p) : pySZ S d = some p := by
  cases d with
  | ref l =>
    have h : (asL S (.ref l)).bind (fun xs => (pys xs).map PyData.list) = some p := h
    obtain ⟨xs, e, h⟩ := Option.bind_eq_some_iff.mp h
    obtain ⟨q, e2, rfl⟩ := Option.map_eq_some_iff.mp h
    show (asL S (.ref l)).bind (fun xs => (pyZs xs).map PyData.list) = _
    rw [e, Option.bind_some, pyZs_of e2]
    rfl
  | _ => exact pyZ_of h
theorem reprZ_of {ds : List D} {S : Store} {k : D → Prop} (h : fRepr ds S k) : fReprZ ds S k := by
  match ds, h with
  | [d], h =>
    have h : (match pyS S d with
      | some p => p.showable = true ∧ p.depth ≤ 50 ∧ p.shown.length ≤ sizeLine ∧ k (.str p.shown)
      | none => False) := h
    show (match pySZ S d with
      | some p => p.showable = true ∧ p.depth ≤ 50 ∧ p.shown.length ≤ sizeLine ∧ k (.str p.shown)
      | none => False)
    split at h
    · rename_i p e
      rw [pySZ_of e]
      exact h
    · exact h.elim
end Mir
end

section
set_option Elab.async false
set_option linter.all false
set_option maxRecDepth 100000
set_option maxHeartbeats 1001000
/-! t * 1 is t itself. -/
namespace Mir
open L2 PyProof.Rows PySem PySem.Spec
theorem tuple_once (l : Addr) (its : Array Value) (n : Nat) (dd : Option Addr) (sl : Array (Option Value)) (u : Tok) :
    Meets (Builtin.«tuple.__mul__» ⟨[.ref l, .int 1 u], []⟩) (fun _ R s => s.heap.get? l = some { cls := .type "tuple", dict := dd, data := .seq its n, slots := sl } ∧ R (.ok (.ret (.ref l))) s) :=
  .of_wp fun prog w A R s h =>
      by
    obtain ⟨hp, g, d, tk, os⟩ :=
        s
    obtain ⟨hl, h⟩ := h
    have f1 := AutoSeq1.idx_int
    have c0 : ¬ (decide ((1 : Int) < -(2 ^ 63)) || decide ((1 : Int) ≥ 2 ^ 63)) = true := by decide
    have c1 : (its.isEmpty || (1 : Int) == 1) = true := by rw [show ((1 : Int) == 1) = true from rfl, Bool.or_true]
    wp_walk using
        wpAny_loadPart' hl
    repeat (first
      | (refine wpAny_ite_false (decide_eq_false c0) ?_; wp_walk using wpAny_loadPart' hl)
      | (refine wpAny_ite_true (decide_eq_true c1) ?_; wp_walk using wpAny_loadPart' hl))
    exact ⟨_, rfl, h⟩
def rOnce (K : PySem.W.Frag) : R2 := fun x y H Q => ∃ l xs, x = .ref l ∧ y = .int 1 ∧ SqT K H l xs ∧ Q (.ref l) H
theorem op_once {X : Cx} : OpR X (binaryOp .Mult) (rOnce X.K) := by
  intro pins s σ H x
      y v u Q I rx ry h
  obtain ⟨l, xs, rfl, rfl, hT, q⟩ := h
  cases rx
  obtain ⟨t, rfl⟩ := ry
  obtain ⟨its, r, ⟨⟨cls, dd, data, sl⟩, ho, hc, n, hd⟩, hs⟩ :=
      I.tuple hT
  simp only at hc hd
  subst hc hd
  exact wpAny_binaryOp_repeat_ref (T := "tuple") (U := "int") (by decide) ⟨_, ho, rfl⟩ (fun s' => typeIs_int s' 1 t) noFill_tuple_mul F.fills_int_mul F.slot_int_rmul repeat_tuple F.slot_int_index.lookup
    (call_meets F.slot_int_rmul (typeIs_int s 1 t) F.entry_int_rmul (F.args_int_rmul_2 _ _) (int_rmul_tuple 1 t l its.toArray n dd sl)
      ⟨ho, rfl, ⟨_, ho, rfl⟩, call_meets F.slot_tuple_mul ⟨_, ho, rfl⟩ F.entry_tuple_mul (F.args_tuple_mul_2 _ _) (tuple_once l its.toArray n dd sl t) ⟨ho, ⟨.ref l, H, I, rfl, q⟩⟩⟩)
def fMulZ : F2 := fun a b S k => (∃ xs, a = .tup xs ∧ b = .int 1 ∧ k (.tup xs)) ∨ fMul a b S k
def rMulZ (K : PySem.W.Frag) : R2 := fun x y H Q => rOnce K x y H Q ∨ rMulM K x y H Q
theorem op_mulZ {X : Cx} : OpR X (binaryOp .Mult) (rMulZ X.K) := op_once.or op_mulM
theorem snd_mulZ {K : PySem.W.Frag} : Snd2 K fMulZ (rMulZ K) := by
  intro W x y a b Q Qm rs ra rb k m
  rcases m with ⟨xs, rfl, rfl, q⟩ | m
  · obtain ⟨l, vs, rfl, h1, h2⟩ := tup_of (K := K) ra
    cases rb
    exact .inl ⟨l, vs, rfl, rfl, h1, k W _ _ (Le.refl W) rs ra q⟩
  · exact .inr (snd_mul W x y a b Q Qm rs ra rb k m)
theorem backK_t {xs : List D} {S : Store} {Q : D → Store → Prop} (h : Q (.tup xs.reverse) S) : (match D.tup xs with
  | .tup ys => Q (.tup ys.reverse) S
  | _ => False) := h
theorem back_at {me : Mr D} {ρ : Mir.Env} {S : Store} {Q : D → Store → Prop} {X : XC} (h : me ρ S (fun d S1 => match d with
  | .tup xs => Q (.tup xs.reverse) S1
  | _ => False) X) : mBack me ρ S Q X := h
end Mir
end

section
set_option Elab.async false
set_option linter.all false
set_option maxRecDepth 100000
set_option maxHeartbeats 1001000
/-! Error classes of one's own over RuntimeError (one class between), with one field: made and raised. -/
namespace Mir
open L2 PyProof.Rows PySem PySem.Spec
abbrev reTail : List Value := [.type "RuntimeError", .type "Exception", .type "BaseException", .type "object"]
theorem re_contains {bm : List Value} (h : ∃ c : Addr, bm = .ref c :: reTail) (Y : String) : bm.contains (.type Y) = reTail.contains (.type Y) := by
  obtain ⟨c, rfl⟩ := h
  rw [List.contains_cons]
  rfl
structure OexR (K : PySem.W.Frag) (C : Addr) : Prop where
  cls : ∃ nm q N bs bm sn sub ab col dd k0 k1 k2 k3 k5, K.lookup C = some (PySem.excClassObj nm q C N bs bm true sn sub ab col dd k0 k1 k2 k3 k5 "RuntimeError.__new__") ∧ ∃ c : Addr, bm = .ref c :: reTail
  sa : PySem.W.findIn K (.ref C)
      "__setattr__" = some (some (.builtin "object.__setattr__"))
  exC : PySem.W.subIn K (.ref C)
      (.type "BaseException") = some true
  tyC : PySem.W.typeIn K (.ref C)
      = some (.type "type")
  kC : PySem.W.keepIn K (.ref C)
      = true
section
variable {prog : Program} {w : World} {A : Around} {R : Result → Shared → Prop} {hp : Heap} {g : Array GenState} {d : Drawn} {t : Nat} {os : OsState}
open Builtin Builtin.ObjectAttr PySem.HandSPX in
theorem re_osa {K : W.Frag} {name : Str} {tk : Tok} {v : Value} {x C : Addr} {fv : Array Value} {cd : ClassData}
    (X : K.In hp) (hx : hp.get? x = some { cls := .ref C, data := .fields fv }) (hcd : W.clsIn K C = some cd) (hm : ∃ c : Addr, cd.mro = .ref C :: .ref c :: reTail) (hh : cd.hasDict = true) (ha : W.findIn K (.ref C) name = some none)
    (hq : ∀ h' tk' dx, (∀ b o, b ≠ x → hp.get? b = some o → h'.get? b = some o)
        → hp.objs.size ≤ dx → dx ≠ x → h'.get? x = some { cls := .ref C, dict := some dx, data := .fields fv } →
      h'.Ns1 dx (fun y => if y = name then some v else none)
          → R (.ok (.ret .none)) ⟨h', g, d, tk', os⟩) :
    codeAny (model prog w) A (.call (.builtin "object.__setattr__")
        ⟨[.ref x, .str name tk, v], []⟩) R ⟨hp, g, d, t, os⟩ := by
  obtain ⟨c, hm⟩ := hm
  have J : W.InstAt hp x { cls := .ref C, data := .fields fv } C none := ⟨hx, rfl, rfl, trivial⟩
  have Z := F.store_object
  have obj : cd.mro.contains (.type "object") = true := by
    rw [hm, List.contains_cons, List.contains_cons]
    rfl
  have some' : cd.mro.isEmpty = false := by rw [hm]; rfl
  have apart : x ≠ hp.objs.size := Nat.ne_of_lt (Heap.lt_size hx)
  have sub : W.Looks (model prog w) hp (isInstance (.ref x) (.type "object")) true := J.type.andThen (W.looks_mroIn X (by
    unfold W.mroIn
    rw [hcd, Option.bind_some, if_neg (by rw [some']; decide), obj]))
  refine codeAny_call_builtin Z.slot.plain Z.entry (@W.check_slot (model prog w) _ _ ⟨hp, g, d, t, os⟩ "object.__setattr__" "object" "__setattr__" (.ref x) [.str name tk, v] [] _ Z.kind Z.split sub (Z.args (.ref x) (.str name tk) v) ?_)
  have mro : W.Looks (model prog w) hp (mroOf (.ref C)) cd.mro := (W.looks_clsIn X hcd).andThen .now
  have taker : W.Looks (model prog w) hp (storeTaker? none) none := .now
  have data : W.Looks (model prog w) hp (classData C) cd := W.looks_clsIn X hcd
  rw [W.osa_eq, refuse_eq]
  refine wpAny_bind (wpAny_bind (J.type.at (wpAny_bind (mro.at ?_))))
  have pass : refuseLoop (.ref x) "__setattr__" cd.mro = pure () := by
    rw [hm, refuseLoop_ref, refuseLoop_ref]
    exact F.store_RuntimeError.passes _
  rw [pass]
  refine wpAny_pure (wpAny_bind (J.type.at (wpAny_bind ((W.looks_findIn X ha).at (wpAny_bind (taker.at ?_))))))
  show wpAny _ _ (storeInOwnDict (.ref x)
      (.ref C) (.str name tk) name v false) _ _ _
  obtain ⟨nm, bs, mr, ns, qn, hd, sn, sb, ab, col, del⟩ := cd
  have hh : hd = true := hh
  subst hh
  unfold storeInOwnDict
      ownDictForStores
  repeat (first
    | with_reducible refine store_in_new ?_ ?_
    | with_reducible refine wpAny_loadPart_at hx ?_
    | with_reducible refine data.at ?_
    | wp_step)
  · exact ⟨_, #[], _, (Heap.get?_update_ne _ _ _ _ apart.symm).trans (Heap.get?_push_at rfl rfl), rfl, fun e he => absurd he (by simp), fun _ => rfl⟩
  · intro h' tk' hn' hs
    have later : (hp.push { cls := .type "dict", data := .dict #[] }).get? x = some { cls := .ref C, data := .fields fv } := Heap.get?_push_of_some _ hx
    refine hq h' tk' hp.objs.size (fun b o hb ho => ?_) (Nat.le_refl _) apart.symm ?_ hn'
    · have hbs := hs.2 b (Nat.ne_of_lt (Heap.lt_size ho))
      exact hbs.trans ((Heap.get?_update_ne _ _ _ _ hb).trans (Heap.get?_push_of_some _ ho))
    · exact (hs.2 x apart).trans (Heap.get?_update_self _ later rfl)
end
section
variable {X : Cx} {pins : List (Addr × Obj)} {σ : L2.St} {H : Hp} {s : Shared} {a C : Addr} {f : Str} {y : V} {u : Value} {Q : Unit → Shared → Prop} {E : Value → Shared → Prop} {A : Around}
/-- self.f = y on such an exception, the first field -/
theorem re_ost (T : OexR X.K C) (I : Inv X pins σ H s) (e : H a = some (exo a C none)) (hno : PySem.W.findIn X.K (.ref C) f = some none) (ry : RelV y u)
    (h : ∀ dx s', H dx = none → dx ≠ a → Inv X pins σ (upd (upd H dx (exd dx [(f, y)]))
        a (exo a C (some dx))) s' → Q () s') : wpAny (model X.prog X.w) A (setAttr (.ref a) f u) Q E s := by
  obtain ⟨nm, q, N, bs, bm, sn, sub, ab, col, dd, k0, k1, k2, k3, k5, hC, c, hbm⟩ := T.cls
  have cls : PySem.W.clsIn X.K C = some { name := nm, bases := bs, mro := .ref C :: bm, ns := N, qualname := q, hasDict := true, slotNames := sn, subclasses := sub, abstract := ab, collection := col, hasDel := false } := by
    unfold PySem.W.clsIn
    rw [hC]
  obtain ⟨t1, ho⟩ :=
      exo_at I.hok e
  obtain ⟨hp, g, d, t, os⟩ := s
  refine PySem.W.set_plain I.kIn (ox := PySem.HandSPX.excO C t1) (od := none) ⟨ho, rfl, rfl, trivial⟩ T.sa ?_
  refine re_osa I.kIn ho cls ⟨c, by rw [hbm]⟩ rfl hno fun h' tk' dx k dn dne hx hn => ?_
  have free : H dx = none := I.hok.fresh dn
  have old : ∀ {b : Addr} {o : Obj}, hp.get? b = some o → b ≠ dx := fun {b o} z => Nat.ne_of_lt (Nat.lt_of_lt_of_le (Heap.lt_size z) dn)
  have other : ∀ {b : Addr}, H b = none → b ≠ a := fun {b} n z => by rw [z, e] at n; cases n
  have same : ∀ {b : Addr} {v : HO}, H b = some v → (exo a C none ≠ v) → upd (upd H dx (exd dx [(f, y)])) a (exo a C (some dx)) b = some v := fun {b v} z ne => by rw [upd_ne (at_ne e z ne), upd_ne (ne_of_none z free)]; exact z
  have U : Un X.fs [] H (upd (upd H dx (exd dx [(f, y)])) a (exo a C (some dx))) hp h' := {
    keep := fun b o z n _ _ => k b o (other n) z
    slot := fun b o z n _ _ => ⟨o.slots, k b o (other n) z⟩
    free := fun b o z n _ => by rw [upd_ne (other n), upd_ne (old z)]; exact n
    there := fun b o z _ => by
      by_cases hb : b = a
      · exact ⟨_, hb ▸ hx⟩
      · exact ⟨o, k b o hb z⟩
    tups := fun b xs z => same z exo_tup
    frzs := fun b o v z => same z exo_frz
    tbls := fun b ps z => ⟨#[], by rw [same z exo_tbl]; simp⟩ }
  refine h dx _ free dne (I.un (t' := tk') U fun b o z => ?_)
  by_cases hb : b = a
  · subst hb
    rw [upd_same] at z
    cases z
    exact exo_ok hx
  rw [upd_ne hb] at z
  by_cases hd : b = dx
  · subst hd
    rw [upd_same] at z
    cases z
    exact exd_ok hn (relO_put (fs := []) ry fun _ => True.intro)
  rw [upd_ne hd] at z
  refine (I.hok b o z).stay (fun c v hc w => k c v ?_ w) (fun c hc => same hc exo_own) fun c xs hc => same hc exo_tup
  rcases hc with hc | hc
  · rw [hc]
    exact hb
  · exact at_ne e hc exo_own
end
def tOstR (K : PySem.W.Frag) (f : Str) (to te : TE) : TS := fun D σ H => te σ H fun y H1 => to σ H1 fun x H2 => ∃ a C : Addr, x = .ref a ∧ OexR K C ∧ PySem.W.findIn K (.ref C) f = some none ∧ H2 a = some (exo a C none) ∧
  ∀ dx, H2 dx = none → dx ≠ a → D.nx σ (upd (upd H2 dx (exd dx [(f, y)])) a (exo a C (some dx)))
section
variable {X : Cx} {o e : Expr} {es : List Expr} {to te : TE} {ta : TA} {f : Str} {p p' pos : Pos}
theorem ps_ostR (ho : PE X o to) (he : PE X e te) (hs : swapsWith e (some (.Attribute o f p')) pos.line X.env = pure false := by rfl) : PS X (.Assign [.Attribute o f p'] e pos) (tOstR X.K f to te) := by
  refine ⟨fun pins s σ H D I h => plainObj_wpAny_Assign_Attribute (thn (he.run pins s σ H _ I h) ?_) hs⟩
  rintro v s1 ⟨y, H1, I1, r1, q1⟩
  refine thn (ho.run pins s1 σ H1 _ I1 q1) ?_
  rintro u s2 ⟨x, H2, I2, r2, a, C, rfl, T, hno, ea, q⟩
  obtain rfl : u = Value.ref a :=
      r2
  exact re_ost T I2 ea hno r1 fun dx s' n ne J => ⟨σ, _, J, q dx n ne⟩
theorem init1R {P : Program} {w : World} {K : PySem.W.Frag} {mg : Str → Option Value} {base : Heap} {qual f1 : Str} {st : Stmt} {fI C : Addr} {fd : FuncData} {p p' q pos : Pos} {k : Nat} (F : Fun K "__init__" qual st fI fd) (S : FnScope ["self", f1] ["self", f1] (defScope st)) (T : OexR K C) (h1 : PySem.W.findIn K (.ref C) f1 = some none)
    (hb : defBody st = [.Assign [.Attribute (.Name "self" p) f1 p'] (.Name f1 q) pos]) (v0 : Vis (defScope st) "self") (v1 : Vis (defScope st) f1) (d1 : (f1 == ("__debug__" : Str)) = false) (c1 : (f1 == ("__classdict__" : Str)) = false)
    (sw : ∀ env : PySem.Env, env.scope = defScope st → swapsWith (.Name f1 q) (some (.Attribute (.Name "self" p) f1 p')) pos.line env = pure false) : FnOk P w K mg base (L2.CX P w) (k + 1) fI fd ["self", f1] (initSp K C [f1]) :=
  Fun.okX F S initSp_len fun cdv A outer s H vs Q E hr ⟨a, ys, e1, hl, ea, h⟩ => by
    match ys, hl with
    | [y], _ =>
      rw [hb, e1]
      refine ⟨_, pss_one (ps_ostR (pv 0 rfl v0) (pv 1 rfl v1 d1 c1) (sw _ rfl)), y, rfl, .ref a, rfl, a, C, rfl, T, h1, ea, fun dx hd hne => ?_⟩
      refine h dx _ hd hne upd_same ?_ fun b b1 b2 => ?_
      · rw [upd_ne hne, upd_same]
        rfl
      · rw [upd_ne b1, upd_ne b2]
theorem pmk_re {CX : CXT} {x : Str} {C fI : Addr} {k : Nat} {fd : FuncData} {ps : List Str} {sp : Sp} {ds : List Value} {dvs : List V} (T : OexR X.K C) (iC : PySem.W.findIn X.K (.ref C) "__init__" = some (some (.ref fI))) (tI : PySem.W.typeIn X.K (.ref fI) = some (.type "function"))
    (F1 : FnOk X.prog X.w X.K X.mg X.base CX k fI fd ps sp) (hr : Room (k + 1) X.A) (hb : Binds X.K fd ps ds) (hd : Vals dvs ds)
        (hx : Passes CX X (fun _ _ _ => False)) (hg : Gl X x) (hm : X.mg x = some (.ref C)) (ha : PA X (e :: es) ta)
    (hdb : (x == ("__debug__" : Str)) = false := by decide) (he : starEach (e :: es) X.env = (false, eval e X.env)
        :: starEach es X.env := by rfl) (hpl : (backTo pos (starEach es X.env)).any (·.1) = false := by rfl) :
    PMk X (.Call (.Name x p) (e :: es)
        [] pos) (tMkO C sp dvs ta) := by
  intro pins s σ H Q I h
  obtain ⟨nm, q, N, bs, bm, sn, sub, ab, col, dd, k0, k1, k2, k3, k5, hC, hbm⟩ :=
      T.cls
  refine wpAny_Call_Name_kw
      (ld_glob I hg hm ?_ hdb)
  refine PySem.W.callWith_K (h₀ := X.base) I.ok.mod.kin T.kC (thn (ha.run pos pins s σ H _ I h) ?_) he hpl
  rintro us ⟨hp, g, dr, tk, os⟩ ⟨vs, H1, I1, r1, hz, q1⟩
  refine ⟨I1.kIn, ?_⟩
  show wpAny _ _ (call (.ref C)
      us) _ _ _
  have room : hp.objs.size ≤ hp.objs.size + 1 := Nat.le_succ _
  have hq := q1 (hp.objs.size + 1) (I1.hok.fresh room)
  have kk : ∀ b o, hp.get? b = some o → ((hp.push (PySem.W.kdv_tup us)).push (PySem.HandSPX.excO C hp.objs.size)).get? b = some o := fun b o z => Heap.get?_push_of_some _ (Heap.get?_push_of_some _ z)
  have hget : ((hp.push (PySem.W.kdv_tup us)).push (PySem.HandSPX.excO C hp.objs.size)).get? (hp.objs.size + 1)
      = some (PySem.HandSPX.excO C hp.objs.size) := by heap_get
  have I2 : Inv X pins σ (upd H1 (hp.objs.size + 1) (exo (hp.objs.size + 1) C none))
      ⟨(hp.push (PySem.W.kdv_tup us)).push (PySem.HandSPX.excO C hp.objs.size), g, dr, tk, os⟩ :=
    I1.laid (t' := tk) (a := hp.objs.size + 1) (o := exo (hp.objs.size + 1) C none) (h' := (hp.push (PySem.W.kdv_tup us)).push (PySem.HandSPX.excO C hp.objs.size)) kk room (exo_ok hget)
  have r2 : Vals (V.ref (hp.objs.size + 1) :: (vs ++ dvs))
      (Value.ref (hp.objs.size + 1) :: (us ++ ds)) := .cons rfl (r1.append hd)
  have hl : (Value.ref (hp.objs.size + 1) :: us ++ ds).length = ps.length := (r2.length.symm.trans (F1.len _ _ _ _ hq) : _)
  have few : us.length ≤ sizeLine := by
    have z := Paired.length r1
    rw [sizeLine_eq]
    omega
  refine wpAny_call (PySem.HandSPX.call_own F.excBase_RuntimeError (re_contains hbm) (I1.kIn _ _ hC) (PySem.W.looks_findIn I1.kIn iC) (fun self => PySem.W.bind_fn I1.kIn self tI) few (codeAny_mono (F1.run _ X.stack _ _ ⟨Value.ref (hp.objs.size + 1) :: us, []⟩ (Value.ref (hp.objs.size + 1) :: (us ++ ds)) _ _ (fun _ _ _ => False) (hr.make C us []) (I2.env0.make C us []) (hb _ (Value.ref (hp.objs.size + 1) :: us) I2.kIn hl) r2 hq) ?_))
  rintro (er | fl) s' hq'
  · exact hx pins σ _ _ er s' I2 hq'
  · match fl, hq' with
    | .ret u, ⟨v, H2, os2, bare2, un2, hok2, rv, ev, d, fs, ea, ed, hd1, q2⟩ =>
      subst ev
      obtain ⟨h2, g2, d2, t2, os'⟩ :=
          s'
      exact ⟨rv, mk_end (raises_own T.exC T.tyC) I1 room kk un2 hok2 os2 bare2 ea ed hd1 q2⟩
end
/-- such an error class of the package -/
structure ErrOkR (P : Program) (w : World) (K : PySem.W.Frag) (mg : Str → Option Value) (base : Heap) (x : Str) (C : Addr) (fs : List Str) : Prop where
  gl : mg x = some (.ref C)
  T : OexR K C
  init : ∃ (fI : Addr) (fd : FuncData), PySem.W.findIn K (.ref C) "__init__" = some (some (.ref fI)) ∧ PySem.W.typeIn K (.ref fI) = some (.type "function") ∧ Binds K fd ("self" :: fs) [] ∧ ∀ k, FnOk P w K mg base (L2.CX P w) (k + 1) fI fd ("self" :: fs) (initSp K C fs)
section
variable {X : Cx}
theorem js_raiseR {x : Str} {C : Addr} {fs : List Str} {e : Expr} {es : List Expr} {false_or_by_contra : Mr (List D)} {k : Nat} {p pos pos' : Pos} (E : ErrOkR X.prog X.w X.K X.mg X.base x C fs) (hfs : fs.length ≤ 100) (hc : X.calm = true) (hr : Room (k + 2) X.A) (ha : JA X (e :: es) false_or_by_contra) (hg : Gl X x)
    (hdb : (x == ("__debug__" : Str)) = false := by decide) (he : starEach (e :: es) X.env = (false, eval e X.env)
        :: starEach es X.env := by rfl) (hpl : (backTo pos (starEach es X.env)).any (·.1) = false := by rfl) :
    JS X (.Raise (some (.Call (.Name x p) (e :: es) [] pos)) none pos') (mRaise C fs false_or_by_contra) := by
  obtain ⟨gl, T, fI, fd, i1, i2, i3, i4⟩ := E
  refine ⟨fun Wx tk => ps_imp (ps_raise hc tk (pmk_re T i1 i2 (i4 k) hr i3 .nil (passL (X := X)) hg gl (ha.pa Wx tk) hdb he hpl)) ?_⟩
  rintro D σ H ⟨W, ρ, M, rfl, rs, re, er, q⟩
  refine ⟨W, ρ, _, M.x ρ, rfl, rs, re, er.xc W σ ρ (Le.refl W) rs re, ?_, q⟩
  rintro W1 vs ds l rs1 r1 ⟨hl, m1⟩
  have hlen := r1.length
  refine ⟨by omega, fun a ha => ⟨a, vs, by rw [List.append_nil], by omega, upd_same, fun dx H' h1 h2 h3 h4 h5 => ⟨rfl, dx, _, h3, h4, ?_, ?_⟩⟩⟩
  · rw [upd_ne h2] at h1
    exact h1
  · rw [upd_ne h2] at h1
    have same : upd (L2.del H' a) dx (.xd (fs.zip vs).reverse) = upd W1.H dx (.xd (fs.zip vs).reverse) := funext fun b => by
      by_cases hb : b = dx
      · rw [hb, upd_same, upd_same]
      rw [upd_ne hb, upd_ne hb]
      by_cases hba : b = a
      · rw [hba, L2.del_same, ha]
      · rw [L2.del_ne hba, h5 b hba hb, upd_ne hba]
    rw [same]
    have l2 : Le W1 (W1.add dx (.xd (fs.zip vs).reverse)) := Le.add rs1 h1
    exact er.xc W1 σ ρ l rs1 (re.mono l) (W1.add dx (.xd (fs.zip vs).reverse)) C dx (fs.zip vs).reverse (fs.zip ds).reverse l2 (rs1.add (u := .xd (fs.zip vs).reverse) h1) upd_same (dead_add rs1 h1) (RK.rev (zip_RK (r1.mono l2))) m1
end
end Mir
end

section
set_option Elab.async false
set_option linter.all false
set_option maxRecDepth 100000
set_option maxHeartbeats 1001000
/-! x in t, t a tuple; l[i] op= e, l a living list. -/
namespace Mir
open L2 PyProof.Rows PySem PySem.Spec
def rInT (K : PySem.W.Frag) : R2 := fun x y H Q => ∃ d ds, Dp K H x d ∧ Dp K H y (.tuple ds) ∧ d.plain = true ∧ PyData.plainAll ds = true ∧ d.depth ≤ 60 ∧ Q (.bl (ds.any fun z => PyData.eqv z d)) H
theorem op_inT {X : Cx} (hu : X.A.units + 65 < cLine) : OpR X (compareOp .In) (rInT X.K) := by
  rintro pins s σ H x y v u Q I rx ry ⟨d, ds, hd, he, p1, p2, hz, q⟩
  obtain ⟨as, r1⟩ :=
      Dp.reads I d x v hd rx
  obtain ⟨bs, r2⟩ := Dp.reads I (.tuple ds) y u he ry
  exact SeqAt.in_tuple_data r2 r1 p2 p1 (by omega) ⟨.bl _, H, I, rfl, q⟩
def fInT : F2 := fun a b S k => ∃ p ds, py a = some p ∧ py b = some (.tuple ds) ∧ p.plain = true ∧ PyData.plainAll ds = true ∧ p.depth ≤ 60 ∧ k (.bl (ds.any fun z => PyData.eqv z p))
theorem snd_inT {K : PySem.W.Frag} : Snd2 K fInT (rInT K) := by
  rintro W x y a b Q Qm rs ra rb k ⟨p, ds, e1, e2, p1, p2, hz, h⟩
  exact ⟨p, ds, RD.dp rs ra e1, RD.dp rs rb e2, p1, p2, hz, k W _ _ (Le.refl W) rs (.bl _) h⟩
/-! ### l[i] op= e -/
section
variable {X : Cx} {o i e : Expr} {mo mi me : Mr D} {pos : Pos}
def rGetL : V → V → Hp → VK → Prop := fun o i H Q => ∃ p xs, ∃ (k : Nat), ∃ v, o = .ref p ∧ i = .int k ∧ H p = some (.lst xs) ∧ xs[k]? = some v ∧ Q v H
theorem get_lst : PGet X rGetL := by
  rintro pins s σ H o i ov iv Q I ro ri ⟨p, xs, k, v, rfl, rfl, hp, hv, q⟩
  cases ro
  obtain ⟨t, rfl⟩ := ri
  obtain ⟨its, n, r, ho, hz⟩ :=
      I.lst hp
  obtain ⟨w, ew, rw'⟩ := r.get hv
  have hk := (List.getElem?_eq_some_iff.mp hv).1
  have hn := line63
  exact wpAny_getItem_list (items := its.toArray) ⟨_, ho, rfl, n, rfl⟩ (by omega) (by omega) (by simpa using ew) ⟨v, H, I, rw', q⟩
def mLAug (f : F2) (mo mi me : Mr D) : MS := fun M ρ S => mo ρ S (fun o S1 => mi ρ S1 (fun i S2 => ∃ l xs, ∃ (k : Nat), ∃ x, o = .ref l ∧ i = .int k ∧ S2 l = some (.lst xs) ∧ xs[k]? = some x ∧
  me ρ S2 (fun y S3 => f x y S3 fun z => ∃ ys, S3 l = some (.lst ys) ∧ k < ys.length ∧ M.nx ρ (put S3 l (.lst (ys.set k z)))) (M.x ρ)) (M.x ρ)) (M.x ρ)
theorem lst_in {K : PySem.W.Frag} {W : Wd} (rs : RS K W) {l : Nat} {xs : List D} (e : W.S l = some (.lst xs)) : ∃ vs, W.H (W.μ l) = some (.lst vs) ∧ RDs W vs xs := rs.obj l _ e
theorem js_laug {op : Operator} {f : F2} {r : R2} {tpos : Pos} (ho : JE X o mo) (hi : JE X i mi) (he : JE X e me) (hop : PIp X op r) (hs : Snd2 X.K f r)
    (ha : ∀ ov iv new, augStore i ov iv new = (do holding [new, ov, iv] (setItem ov iv new); release [new, ov, iv] []; pure .next) := by intros; rfl) : JS X (.AugAssign (.Subscript o i tpos) op e pos) (mLAug f mo mi me) :=
  ⟨fun Wx tk => ps_imp (ps_augS (ho.pe Wx tk) (hi.pe Wx tk) get_lst (he.pe Wx tk) hop set_list ha) fun D0 σ H ⟨W, ρ, M, eH, rs, re, er, q⟩ => by
    subst eH
    have xr := er.xc W σ ρ (Le.refl W) rs re
    refine ⟨W, ρ, _, _, rfl, rs, re, xr, fun W1 x dx l1 rs1 r1 m1 => ⟨W1, ρ, _, _, rfl, rs1, re.mono l1, xr.mono l1, fun W2 y dy l2 rs2 r2 m2 => ?_, m1⟩, q⟩
    obtain ⟨l, xs, k, d, rfl, rfl, e1, e2, m2⟩ := m2
    have r1' := r1.mono l2
    cases r1' with
    | ref _ hl =>
      cases r2
      obtain ⟨vs, h1, h2⟩ := lst_in rs2 e1
      obtain ⟨v', e3, rv⟩ := h2.get e2
      refine ⟨_, vs, k, v', rfl, rfl, h1, e3, W2, ρ, _, _, rfl, rs2, re.mono (l1.trans l2), xr.mono (l1.trans l2), fun W3 y3 dy3 l3 rs3 r3 m3 => ?_, m2⟩
      refine hs W3 v' y3 d dy3 _ (fun z S3 => ∃ ys, S3 l = some (.lst ys) ∧ k < ys.length ∧ M.nx ρ (put S3 l (.lst (ys.set k z)))) rs3 (rv.mono l3) r3 (fun W4 z dz l4 rs4 r4 m4 => ?_) m3
      obtain ⟨ys, e4, hk, m4⟩ := m4
      obtain ⟨us, g1, g2⟩ := lst_in rs4 e4
      have ll := ((l1.trans l2).trans l3).trans l4
      have mu : W4.μ l = W2.μ l := (l3.trans l4).μ l hl
      have lw : Le W4 (W4.wr l (.lst (us.set k z)) (.lst (ys.set k dz))) := Le.wr e4
      rw [← mu]
      refine ⟨_, us, (k : Int), k, rfl, rfl, g1, ?_, ?_⟩
      · rw [g2.length]
        unfold ixN
        first
          | (rw [if_neg (by omega), if_pos (by omega)]; simp)
          | (simp; omega)
      · exact er.nx (W4.wr l _ _) σ ρ (ll.trans lw) (rs4.wr e4 ⟨_, upd_same, ((g2.mono lw).set (r4.mono lw) k)⟩) (re.mono (ll.trans lw)) m4⟩
end
/-- what is known of a law without lambdas at its start -/
def LawAtC (P : Program) (w : World) (K : PySem.W.Frag) (k : Nat) (mg : Str → Option Value) (fa : Addr) : Prop :=
  ∃ F : MF, LawIs F ∧ ∀ base : Heap, K.In base → base.Ns mainGlobals mg → FnG P w K mg base k fa 1 [] F
theorem walkGC {l : PySem.W.OpenLaw} (k : Nat) {q : Program} {loose : List Str} {XP : (Str → Option Value) → Heap → Prop} {YP : World → Heap → Prop} {d : DefRec} {K : Params → PySem.W.Frag}
    (hn : l.most = some 63) (hdf : d.params.defaults = []) (hr : Room k callerA) (hY : ∀ (w : World) (h : Heap), YP w h → (K w.params).In h)
    (G : ∀ (w : World) (mg : Str → Option Value) (fa : Addr) (h : Heap), (K w.params).In h → h.Ns mainGlobals mg → mg d.name = some (.ref fa) → LawAtC l.prog w (K w.params) k mg fa) :
    PySem.W.WalkO q loose XP YP l.row.toRowW d [] (fun f vs =>
        PySem.call f vs) := by
  refine Att.attach_call hn hdf fun w s₀ s₁ mg mb fa o pm cd doc a vs ns T Y ho hd hcd hmg hobj hints hlen hg => ?_
  obtain ⟨F, m4, m5⟩ := G w mg fa _ (hY w _ Y) T.T.g hmg
  exact law_callG (hY w _ Y) T.T.g T.T.b T.T.builtins T.T.nolimit hg hobj hints hlen hr m5 m4
end Mir
end

section
set_option Elab.async false
set_option linter.all false
set_option maxRecDepth 100000
set_option maxHeartbeats 1001000
/-! str(i). -/
namespace Mir
open L2 PyProof.Rows PySem PySem.Spec
def fStrI : FA := fun ds S k => match ds with
  | [.int i] => i.natAbs.log2 < 1920 ∧ k (.str (toString i))
  | _ => False
theorem snd_strI {K : PySem.W.Frag} : SndA K fStrI (fun xs H Q => ∃ i : Int, xs = [.int i] ∧ i.natAbs.log2 < 1920 ∧ Q (.str (toString i)) H) := by
  intro W xs ds Q Qm rs r k m
  unfold fStrI at m
  split at m
  · cases r with
    | cons r1 r2 =>
      cases r2
      cases r1
      exact ⟨_, rfl, m.1, k W _ _ (Le.refl W) rs (.str _) m.2⟩
  · exact m.elim
theorem str_i {S : Store} {k : D → Prop} {i : Int} (h : i.natAbs.log2 < 1920) (q : k (.str (toString i))) : fStrI [.int i] S k := ⟨h, q⟩
/-- [..] * n as a living list -/
def mMulN (ma mb : Mr D) : Mr D := fun ρ S Q X => ma ρ S (fun x S1 => mb ρ S1 (fun y S2 => ∃ xs, ∃ j : Int, x = .lst xs ∧ y = .int j ∧ xs.length ≤ 1000 ∧ -1000 ≤ j ∧ j ≤ 1000 ∧
  ∀ l, S2 l = none → Q (.ref l) (put S2 l (.lst (List.replicate j.toNat xs).flatten))) X) X
section
variable {X : Cx} {a b : Expr} {ma mb : Mr D} {pos : Pos}
theorem je_mulN (ha : JE X a ma) (hb : JE X b mb) : JE X (.BinOp a .Mult b pos) (mMulN ma mb) :=
  ⟨fun Wx tk => pe_imp (pe_op op_rep (ha.pe Wx tk) (hb.pe Wx tk)) fun σ H Q ⟨W, ρ, Qm, Xm, eH, rs, re, xr, k, m⟩ => by
    subst eH
    refine ⟨W, ρ, _, Xm, rfl, rs, re, xr, fun W1 x d l1 rs1 r1 m1 => ?_, m⟩
    refine ⟨W1, ρ, _, Xm, rfl, rs1, re.mono l1, xr.mono l1, fun W2 y d' l2 rs2 r2 m2 => ?_, m1⟩
    obtain ⟨xs, j, rfl, rfl, h1, h2, h3, m2⟩ := m2
    have r1' := r1.mono l2
    cases r2
    cases r1' with
    | lst e1 hn e2 =>
      have hl := e2.length
      refine ⟨_, j, _, rfl, rfl, e1, by omega, by omega, ?_, ?_⟩
      · rw [hl, sizeLine_eq]
        have : xs.length * j.toNat ≤ 1000 * 1000 := Nat.mul_le_mul h1 (by omega)
        omega
      · exact (k.mono (l1.trans l2)).new (o := .lst (List.replicate j.toNat xs).flatten) rs2 (fun p hp => ⟨_, upd_same, (e2.rep j.toNat).mono (Le.new rs2 hp)⟩) m2⟩
end
end Mir
end

section
set_option Elab.async false
set_option linter.all false
set_option maxRecDepth 100000
set_option maxHeartbeats 401000
/-! Steps: three names at once, a list repeated. -/
namespace Mir
open PySem L2
section
variable {S : Store} {k : D → Prop} {Q : D → Store → Prop} {X : XC} {ρ : Mir.Env} {M : ME}
def is3 (k : D → D → D → Store → Prop) : List D → Store → Prop := fun ds S => match ds with
  | [d, d', d''] => k d d' d'' S
  | _ => False
theorem par3_at {i j k : Nat} {false_or_by_contra : Mr (List D)} (h : false_or_by_contra ρ S (is3 fun d d' d'' S1 => M.nx (((ρ.set i (some d)).set j (some d')).set k (some d'')) S1) (M.x ρ)) : mPar3 i j k false_or_by_contra M ρ S := h
theorem is3_at {q : D → D → D → Store → Prop} {d e f : D} (h : q d e f S) : is3 q [d, e, f] S := h
def muK (d : D) (Q : D → Store → Prop) : D → Store → Prop := fun y S1 => match y with
  | .int j => -1000 ≤ j ∧ j ≤ 1000 ∧ ∀ l, S1 l = none → Q (.ref l) (put S1 l (.lst (List.replicate j.toNat d)))
  | _ => False
theorem mulN1 {d : D} {me : Mr D} (h : me ρ S (muK d Q) X) : mMulN (mLst (mCons (mC d) mNil)) me ρ S Q X := by
  unfold mMulN
  refine lst_at (cons_at (c_at (nil_at ⟨show 1 ≤ 100000 by decide, ?_⟩)))
  have key : muK d Q = fun y S2 => ∃ xs, ∃ j : Int, D.lst [d] = .lst xs ∧ y = .int j ∧ xs.length ≤ 1000 ∧ -1000 ≤ j ∧ j ≤ 1000 ∧ ∀ l, S2 l = none → Q (.ref l) (put S2 l (.lst (List.replicate j.toNat xs).flatten)) := by
    funext y S2
    have er : ∀ n : Nat, (List.replicate n [d]).flatten = List.replicate n d := fun n => by
      induction n with
      | zero => rfl
      | succ n ih => rw [List.replicate_succ, List.flatten_cons, ih, List.replicate_succ]; rfl
    refine propext ⟨fun z => ?_, ?_⟩
    · cases y with
      | int j =>
        obtain ⟨h1, h2, h3⟩ := z
        exact ⟨[d], j, rfl, rfl, show 1 ≤ 1000 by decide, h1, h2, fun l hl => by rw [er]; exact h3 l hl⟩
      | _ => exact z.elim
    · rintro ⟨xs, j, e1, rfl, e2, h1, h2, h3⟩
      cases e1
      exact ⟨h1, h2, fun l hl => by rw [← er]; exact h3 l hl⟩
  rw [key] at h
  exact h
theorem muK_n {d : D} {n : Nat} (hn : n ≤ 1000) (h : ∀ l, S l = none → Q (.ref l) (put S l (.lst (List.replicate n d)))) : muK d Q (.int n) S :=
  ⟨by omega, by omega, fun l hl => by rw [Int.toNat_natCast]; exact h l hl⟩
end
end Mir
end

section
set_option Elab.async false
set_option linter.all false
set_option maxRecDepth 100000
set_option maxHeartbeats 2001000
/-! A sum of lists as a living list. -/
namespace Mir
open PySem L2
def mAddN (ma mb : Mr D) : Mr D := fun ρ S Q X => ma ρ S (fun x S1 => mb ρ S1 (fun y S2 => ∃ xs ys, asL S2 x = some xs ∧ asL S2 y = some ys ∧ xs.length + ys.length ≤ 100000 ∧
  ∀ l, S2 l = none → Q (.ref l) (put S2 l (.lst (xs ++ ys)))) X) X
section
variable {X : Cx} {a b : Expr} {ma mb : Mr D} {pos : Pos}
theorem je_addN (ha : JE X a ma) (hb : JE X b mb) : JE X (.BinOp a .Add b pos) (mAddN ma mb) :=
  ⟨fun Wx tk => pe_imp (pe_op op_addM (ha.pe Wx tk) (hb.pe Wx tk)) fun σ H Q ⟨W, ρ, Qm, Xm, eH, rs, re, xr, k, m⟩ => by
    subst eH
    refine ⟨W, ρ, _, Xm, rfl, rs, re, xr, fun W1 x d l1 rs1 r1 m1 => ?_, m⟩
    refine ⟨W1, ρ, _, Xm, rfl, rs1, re.mono l1, xr.mono l1, fun W2 y d' l2 rs2 r2 m2 => ?_, m1⟩
    obtain ⟨xs, ys, e1, e2, hs, m2⟩ := m2
    obtain ⟨p, vs, rfl, h1, h2⟩ := asL_of (K := X.K) rs2 (r1.mono l2) e1
    obtain ⟨q, us, rfl, h3, h4⟩ := asL_of (K := X.K) rs2 r2 e2
    exact .inr (.inr ⟨p, q, vs, us, rfl, rfl, h1, h3, small_line (by rw [h2.length, h4.length]; exact hs), (k.mono (l1.trans l2)).new (o := .lst (xs ++ ys)) rs2 (fun p hp => ⟨_, upd_same, (h2.app h4).mono (Le.new rs2 hp)⟩) m2⟩)⟩
end
section
variable {S : Store} {Q : D → Store → Prop} {X : XC} {ρ : Mir.Env}
theorem addN_at {ma mb : Mr D} (h : ma ρ S (fun x S1 => mb ρ S1 (fun y S2 => ∃ xs ys, asL S2 x = some xs ∧ asL S2 y = some ys ∧ xs.length + ys.length ≤ 100000 ∧ ∀ l, S2 l = none → Q (.ref l) (put S2 l (.lst (xs ++ ys)))) X) X) : mAddN ma mb ρ S Q X := h
end
end Mir
end

section
set_option Elab.async false
set_option linter.all false
set_option maxRecDepth 100000
set_option maxHeartbeats 1001000
/-! x(lambda: e), where x puts what it gets into a list, or keeps the error. -/
namespace Mir
open L2 LamX PyProof.Rows PySem PySem.Spec
/-- a call that is tried: n slots, j's slot keeps None or the error, r's slot the list with the answer; then the rest of the def -/
def mTellB (n j r : Nat) (kd : Addr → Option Bool) (mrest : MS) (mc : Store → (D → Store → Prop) → XC → Prop) (S : Store) (Q : D → Store → Prop) : Prop :=
  mc S (fun d S1 => mrest { nx := fun _ S' => cutQ Q .non S', rt := cutQ Q } (((List.replicate n none).set j (some .non)).set r (some (.lst [d]))) S1)
    fun C fs S1 => kd C = some true ∧ ∀ l, S1 l = none → mrest { nx := fun _ S' => cutQ Q .non S', rt := cutQ Q } ((List.replicate n none).set j (some (.ref l))) (put S1 l (.exc C fs))
/-- what a def makes of the lambda's reading -/
def TTg (K : PySem.W.Frag) (tm : (Store → (D → Store → Prop) → XC → Prop) → Store → (D → Store → Prop) → Prop) : (XK → Hp → VK → Prop) → Hp → VK → Prop := fun tl H Q =>
  ∃ (W : Wd) (Qm : D → Store → Prop) (mc : Store → (D → Store → Prop) → XC → Prop), W.H = H ∧ RS K W ∧ Cont K W RD Q Qm ∧
    (∀ (W' : Wd) (Q' : VK) (Qm' : D → Store → Prop) (E : XK) (Xm : XC), Le W W' → RS K W' → Cont K W' RD Q' Qm' → XE K W' E Xm → mc W'.S Qm' Xm → tl E W'.H Q') ∧ tm mc W.S Qm
theorem re_slot2 {W : Wd} {σ : L2.St} {n j r : Nat} {u v : V} {d e : D} (hn : σ.length = n) (hu : σ[j]? = some (some u)) (hv : σ[r]? = some (some v)) (ru : RD W u d) (rv : RD W v e) (hjr : j ≠ r) : RE W σ (((List.replicate n none).set j (some d)).set r (some e)) := by
  obtain ⟨h1, h2⟩ := re_slot hn hu ru
  refine ⟨by rw [List.length_set]; exact h1, fun i f h => ?_⟩
  by_cases hij : r = i
  · subst hij
    have hl : r < ((List.replicate n (none : Option D)).set j (some d)).length := by
      rw [List.length_set, List.length_replicate, ← hn]
      exact (List.getElem?_eq_some_iff.mp hv).1
    rw [List.getElem?_set_self hl] at h
    cases h
    exact ⟨v, hv, rv⟩
  · rw [List.getElem?_set_ne hij] at h
    exact h2 i f h
theorem gives_keepB {X : Cx} {Ng : List Str} {x a n m r x1 x2 q : Str} {sg : Scope} {g : Addr} {cdg c1 c2 : Value} {rest : List Stmt} {mrest : MS} {i j jr jn kt kt2 k2 : Nat} {q00 qm qr pt2 q2t ql qn ql2 qr2 p1 p2 p3 tp pa pb q1 q2 q3 pos pos' : Pos}
    (hN : Ng.Nodup) (ha : Ng[0]? = some a) (hi : Ng[i]? = some n) (hj : Ng[j]? = some m) (hr : Ng[jr]? = some r) (hij : i ≠ j) (hj0 : j ≠ 0) (hr0 : jr ≠ 0) (hjr : j ≠ jr) (hln : sg.names.lookup n = some .local) (hlm : sg.names.lookup m = some .local) (hlr : sg.names.lookup r = some .local)
    (hcalm : ∀ s H, (cxOf C8.CX0 X.prog X.w X.K X.mg X.base Ng x sg g cdg X.A X.stack s H C8.E0).nox.calm = true)
    (hc1 : ∀ s H, Names (cxOf C8.CX0 X.prog X.w X.K X.mg X.base Ng x sg g cdg X.A X.stack s H C8.E0).nox x1 c1) (hc2 : ∀ s H, Names (cxOf C8.CX0 X.prog X.w X.K X.mg X.base Ng x sg g cdg X.A X.stack s H C8.E0).nox x2 c2)
    (hdb : (n == ("__debug__" : Str)) = false) (hdc : (n == ("__classdict__" : Str)) = false)
    (hsw : ∀ s H, swapsWith (.Name n q2) (some (.Name m q1)) q3.line (cxOf C8.CX0 X.prog X.w X.K X.mg X.base Ng x sg g cdg X.A X.stack s H C8.E0).env = pure false)
    (hsw2 : ∀ s H, swapsWith (.List [.Call (.Name a p1) [] [] p2] ql2) (some (.Name r qr2)) p3.line (cxOf C8.CX0 X.prog X.w X.K X.mg X.base Ng x sg g cdg X.A X.stack s H C8.E0).env = pure false)
    (hsw3 : ∀ s H, swappedStores [.Tuple [.Name m qm, .Name r qr] kt2 pt2] (.Tuple [.Constant .none jn qn, .List [] ql] k2 q2t) (cxOf C8.CX0 X.prog X.w X.K X.mg X.base Ng x sg g cdg X.A X.stack s H C8.E0).env = pure (some [m, r]))
    (hsw4 : ∀ s H, swapsWithSole [.Tuple [.Name m qm, .Name r qr] kt2 pt2] (.Tuple [.Constant .none jn qn, .List [] ql] k2 q2t) q00.line (cxOf C8.CX0 X.prog X.w X.K X.mg X.base Ng x sg g cdg X.A X.stack s H C8.E0).env = pure false)
    (hJ : ∀ s H, JB (cxOf C8.CX0 X.prog X.w X.K X.mg X.base Ng x sg g cdg X.A X.stack s H C8.E0).nox rest mrest) :
    GivesTo X Ng x sg g cdg (.Assign [.Tuple [.Name m qm, .Name r qr] kt2 pt2] (.Tuple [.Constant .none jn qn, .List [] ql] k2 q2t) q00 :: .Try [.Assign [.Name r qr2] (.List [.Call (.Name a p1) [] [] p2] ql2) p3] [.ExceptHandler (some (.Tuple [.Name x1 pa, .Name x2 pb] kt tp)) (some n) [.Assign [.Name m q1] (.Name n q2) q3] pos'] [] [] pos :: rest) a q
      (TTg X.K (mTellB Ng.length j jr (fun C => PySem.W.exmAny X.K (.ref C) [c1, c2]) mrest)) := by
  intro f c' s H Q tl act hc ⟨W, Qm, mc, eH, rs, k, hmc, hm⟩
  have hset := ps_par (X := (cxOf C8.CX0 X.prog X.w X.K X.mg X.base Ng x sg g cdg X.A X.stack s H C8.E0).nox) (i := j) (j := jr) (pos := q00) (px := qm) (py := qr) (pt := pt2) (kt := kt2) (k2 := k2) (pt2 := q2t) (hcalm s H) hN hj hr hjr hlm hlr (pa_cons (pe_non (j := jn) (pos := qn)) (pa_cons (pe_lst (pos := ql) pa_nil) pa_nil)) (hsw3 s H) (hsw4 s H)
  have htry := ps_try_keep (X := (cxOf C8.CX0 X.prog X.w X.K X.mg X.base Ng x sg g cdg X.A X.stack s H C8.E0).nox) (Wout := fun _ _ _ _ => False) (body := [.Assign [.Name r qr2] (.List [.Call (.Name a p1) [] [] p2] ql2) p3])
    (tb := fun Wd D σ H => ∃ Ech : XK, (∀ cls d σ' H', Ech cls d H' → Wd cls d σ' H') ∧ σ[0]? = some (some (.ref f)) ∧ H c' = some (CodeO c' q) ∧ tl Ech H fun v H1 => [v].length ≤ sizeLine ∧ ∀ p, H1 p = none → D.nx (σ.set jr (some (.ref p))) (upd H1 p (.lst [v])))
    (p1 := pa) (p2 := pb) (tp := tp) (kt := kt) (pos := pos) (pos' := pos') rfl rfl rfl hN hi hln hj (.inl hlm) (.inl rfl) (hc1 s H) (hc2 s H) takesN (fun Wd pn xe tk _ => ⟨fun pins s' σ H' D I h' => by
      obtain ⟨Ech, hW, h1, h2, h3⟩ :=
          h'
      have hp := act Wd pn xe Ech p1 p2 tk hW
      have hq := pss_one (ps_set (pos := p3) (pos' := qr2) hN hr (.inl hlr) (pe_lst (pos := ql2) (pa_cons hp pa_nil)) (hsw2 s H) (.inl rfl))
      exact hq.run pins s' σ H' D I ⟨h1, h2, (show tl Ech H' _ from h3)⟩⟩) hdb hdc (hsw s H)
  have hrest := (hJ s H).pb _ takesN
  refine ⟨_, pss_cons hset (pss_cons htry hrest), ?_⟩
  have hlen0 : (L2.start Ng [V.ref f]).length = Ng.length := by
    unfold L2.start
    have : 0 < Ng.length := (List.getElem?_eq_some_iff.mp ha).1
    rw [List.length_append, List.length_map, List.length_replicate, List.length_singleton]
    omega
  have hjl : j < Ng.length := (List.getElem?_eq_some_iff.mp hj).1
  have hrl : jr < Ng.length := (List.getElem?_eq_some_iff.mp hr).1
  have rest_ok : ∀ (W' : Wd) (σ : L2.St) (ρ : Env), Le W W' → RS X.K W' → RE W' σ ρ → mrest { nx := fun _ S' => cutQ Qm .non S', rt := cutQ Qm } ρ W'.S → tS X.K mrest (fun _ _ _ _ => False) { nx := fun _ H' => Q .non H', rt := Q } σ W'.H := fun W' σ ρ l rs' re q => by
    refine ⟨W', ρ, { nx := fun _ S' => cutQ Qm .non S', rt := cutQ Qm }, rfl, rs', re, ⟨fun W2 σ ρ l2 rs2 re q => ?_, fun W2 v d l2 rs2 r q => ?_, fun W2 σ ρ l2 rs2 re => ?_, fun _ _ _ _ _ _ q => q.elim, fun _ _ _ _ _ _ q => q.elim⟩, q⟩
    · obtain ⟨T, h, q⟩ := q
      exact k (W2.cut T) _ _ ((l.trans l2).trans (Le.cut h)) (rs2.cut h) .non q
    · obtain ⟨T, h, q⟩ := q
      exact k (W2.cut T) _ _ ((l.trans l2).trans (Le.cut h)) (rs2.cut h) (r.mono (Le.cut h)) q
    · intro W3 C dd fv fs l3 rs3 e1 e2 r2 q
      exact q.elim
  subst eH
  show [].length ≤ sizeLine ∧ ∀ p0, W.H p0 = none → ∃ v w, [V.non, V.ref p0] = [v, w] ∧ ∃ Ech : XK, _ ∧ (((L2.start Ng [V.ref f]).set j (some v)).set jr (some w))[0]? = some (some (V.ref f)) ∧ upd W.H p0 (.lst []) c' = some (CodeO c' q) ∧ tl Ech (upd W.H p0 (.lst [])) _
  refine ⟨Nat.zero_le _, fun p0 hp0 => ⟨.non, .ref p0, rfl, ?_⟩⟩
  have h0 : (((L2.start Ng [V.ref f]).set j (some V.non)).set jr (some (V.ref p0)))[0]? = some (some (V.ref f)) := by
    rw [List.getElem?_set_ne hr0, List.getElem?_set_ne hj0]
    rfl
  have hc2 : upd W.H p0 (.lst []) c' = some (CodeO c' q) := by
    rw [upd_ne fun e => by rw [e, hp0] at hc; cases hc]
    exact hc
  have l0 : Le W (W.add p0 (.lst [])) := Le.add rs hp0
  have rs0 : RS X.K (W.add p0 (.lst [])) := rs.add hp0
  refine ⟨fun cls d H' => ∀ σ', wKeep X.K c1 c2 i j Ng.length (fun _ _ _ _ => False) { nx := tS X.K mrest (fun _ _ _ _ => False) { nx := fun _ H' => Q .non H', rt := Q }, rt := Q } cls d σ' H', fun cls d σ' H' h => h σ', h0, hc2, hmc (W.add p0 (.lst [])) _ _ _ _ l0 rs0 (fun W' v d l rs' r q => ?_) (fun W' C dd fv fs l rs' e1 e2 r q => ?_) hm⟩
  · refine ⟨small_line (show 1 ≤ 100000 by decide), fun p1 hp1 => ?_⟩
    have lw : Le W' (W'.add p1 (.lst [v])) := Le.add rs' hp1
    refine rest_ok (W'.add p1 (.lst [v])) _ _ ((l0.trans l).trans lw) (rs'.add hp1) (re_slot2 (u := .non) (v := .ref p1) (by rw [List.length_set, List.length_set, List.length_set, hlen0]) ?_ ?_ .non (new_lst rs' hp1 (.cons r .nil)) hjr) q
    · rw [List.getElem?_set_ne (Ne.symm hjr), List.getElem?_set_ne (Ne.symm hjr)]
      exact List.getElem?_set_self (by rw [hlen0]; exact hjl)
    · exact List.getElem?_set_self (by rw [List.length_set, List.length_set, hlen0]; exact hrl)
  · intro σ'
    obtain ⟨hk, q⟩ := q
    refine ⟨true, hk, fun _ => ⟨C, dd, rfl, rfl, fun b hb hn => ?_⟩, fun z => nomatch z⟩
    have ro : RO (W'.new b (ExcAt C dd b) (.exc C fs)) b (.exc C fs) := by
      obtain ⟨k1, k2⟩ := (Le.new (u := ExcAt C dd b) (o := .exc C fs) rs' hb).k dd _ e1 e2
      exact ⟨dd, fv, upd_same, k1, k2, r.mono (Le.new rs' hb)⟩
    have lw : Le W' (W'.new b (ExcAt C dd b) (.exc C fs)) := Le.new rs' hb
    have rd : RD (W'.new b (ExcAt C dd b) (.exc C fs)) (.ref b) (.ref W'.n) := by
      have z := RD.ref (W := W'.new b (ExcAt C dd b) (.exc C fs)) W'.n (Nat.lt_succ_self _)
      rw [new_lab] at z
      exact z
    refine rest_ok (W'.new b (ExcAt C dd b) (.exc C fs)) _ _ ((l0.trans l).trans lw) (rs'.new hb ro) (re_slot (v := .ref b) (by rw [List.length_set, List.length_set, List.length_set]; exact hn) ?_ rd) (q W'.n rs'.fresh)
    rw [List.getElem?_set_ne hij]
    exact List.getElem?_set_self (by rw [List.length_set, hn]; exact hjl)
end Mir
end

section
set_option Elab.async false
set_option linter.all false
set_option maxRecDepth 100000
set_option maxHeartbeats 1001000
/-! x(lambda: e) for any such def x. -/
namespace Mir
open L2 LamX PyProof.Rows PySem PySem.Spec
section
variable {X : Cx}
def mLamG (T : List (Addr × Str)) (tm : (Store → (D → Store → Prop) → XC → Prop) → Store → (D → Store → Prop) → Prop) (me : Mr D) : Mr D := fun ρ S Q _ => S 0 = some (.tabs T) ∧ tm (fun S' Q' X' => me ρ S' Q' X') S Q
theorem je_lamG {T : List (Addr × Str)} {bg : List Stmt} {tm : (Store → (D → Store → Prop) → XC → Prop) → Store → (D → Store → Prop) → Prop} {x a : Str} {g c P : Addr} {k : Nat} {pg : Arguments} {sg : Scope} {dV kV doc pm cdv ct oc : Value} {an od : Option Addr} {osl : Array (Option Value)} {Ng : List Str} {me : Mr D}
    {params : Arguments} {body : Expr} {scope : Scope} {p lpos pos : Pos} (hg : Gl X x) (hm : X.mg x = some (.ref g)) (hk : PySem.W.keepIn X.K (.ref g) = true) (hgd : X.A.guards = some [])
    (lk : X.K.lookup g = some ⟨oc, od, .func (PySem.W.fnOf x x pg bg sg dV kV doc pm an cdv ct), osl⟩)
    (hcg : PySem.W.codeIn X.K cdv x = true) (hb : L2.Binds X.K (PySem.W.fnOf x x pg bg sg dV kV doc pm an cdv ct) [a] [])
    (Sg : FnScope Ng [a] sg) (hNg : Ng[0]? = some a) (hva : Vis sg a)
    (hG : GivesTo X Ng x sg g cdv bg a (X.env.qual ++ "<lambda>") (TTg X.K tm))
    (TB : TabB X.base X.mg c P) (hcode : X.env.code = .ref c) (hmT : (P, X.env.qual ++ "<lambda>") ∈ T) (hu : ∀ p ∈ T,
        p.1 = P → p.2 = X.env.qual ++ "<lambda>") (hr : Room (k + 2) X.A) (L : LamS X.env.scope scope) (hdef : defaultsOf params X.env = ([], []))
    (hbind : ∀ (q : Str) (cl : List (Str × Addr)) (pm cv ctv : Value),
        bindArgs (PySem.W.kla_fn "<lambda>" q params body scope cl pm cv ctv) ⟨[], []⟩ = pure [])
    (hbody : ∀ (A : Around) (outer : List PySem.Env) (s : Shared) (H : Hp) (E : XK) (f c' : Addr), (lamCx X A outer s H E scope f c').A.guards = some [] → Room k (lamCx X A outer s H E scope f c').A → JE (lamCx X A outer s H E scope f c') body me)
    (hdb : (x == ("__debug__" : Str)) = false := by decide) (hd : (a == ("__debug__" : Str)) = false :=
        by decide) (hcd : (a == ("__classdict__" : Str)) = false := by decide) :
    JE X (.Call (.Name x p) [.Lambda params body scope lpos] [] pos) (mLamG T tm me) := by
  constructor
  intro Wx tk
  constructor
  rintro pins s σ H Q I ⟨W, ρ, Qm, Xm, rfl, rs, re, xr, kc, hS, q⟩
  have eT : W.T = T := (rs.obj 0 _ hS).1
  have tT : Tabs T W.H := by rw [← eT]; exact rs.tb
  apply wpAny_Call_Name_kw
  refine ld_glob I hg hm ?_ hdb
  refine PySem.W.callWith_K (h₀ := X.base) I.ok.mod.kin hk ?_
      (by rfl) (by rfl)
  show wpAny _ _ (spliced ((false, eval (.Lambda params body scope lpos) X.env) :: backTo pos (starEach []
    X.env))) _ _ s
  apply Calls.spliced_cons
  refine lam_make2 I TB hcode hmT hu tT hdef (L.has I.ok) ?_
  intro f c' pm' ctv H1 s' I1 eN T1 hf hfn hfr hco
  refine Calls.spliced_nil ⟨I1.kIn,
      ?_⟩
  obtain ⟨l1, rs1⟩ := rs.tabs eN (by rw [eT]; exact T1)
  have told : TTg X.K tm (fun E H' Q' => tE X.K me (fun cls d _ H2 => E cls d H2) σ H' Q') H1 Q :=
    ⟨{ W with H := H1 }, Qm, fun S' Q' X' => me ρ S' Q' X', rfl, rs1, kc.mono l1, fun W' Q' Qm' E Xm' l' rs' k' x' z => ⟨W', ρ, Qm', Xm', rfl, rs', re.mono (l1.trans l'), fun W2 C dd fv fs l2 r2 a1 a2 a3 a4 => x' W2 C dd fv fs l2 r2 a1 a2 a3 a4, k', z⟩, q⟩
  have run : codeAny (model X.prog X.w) X.A (.call (.ref g) ⟨[.ref f], []⟩) (CR C8.CX0 X.stack X.prog X.w H1 s' Q C8.E0) s' := by
    refine run_ofS (N := Ng) (ps := [a]) (us := [.ref f]) (vs := [.ref f]) lk hcg Sg hr I1.env0 (hb s' [.ref f] I1.kIn rfl) (.cons rfl .nil) rfl ?_
    intro rm
    obtain ⟨t', b1, b2⟩ := hG f c' s' H1 Q _ (fun Wd pn xe E r1 r2 tk hW => act_pe I1 L hf hfn hfr (hbind _ _ _ _ _) tk hW rm hgd (fun A outer s H g2 m2 => (hbody A outer s H E f c' g2 m2).pe _ (takes_of rfl rfl rfl rfl)) hNg hva hd hcd) hco told
    exact ⟨t', b1.nox, b2⟩
  refine wpAny_call (codeAny_mono run ?_)
  rintro (e | fl) s2 hq
  · exact (show False from hq).elim
  · cases fl with
    | ret u => exact I1.after hq
    | next => exact False.elim hq
    | brk => exact False.elim hq
    | cont => exact False.elim hq
theorem je_lamBF {K : PySem.W.Frag} {T : List (Addr × Str)} {x a n m r x1 x2 : Str} {g c P : Addr} {k : Nat} {st : Stmt} {fd : FuncData} {Ng : List Str} {me : Mr D} {mrest : MS} {rest : List Stmt} {c1 c2 : Value} {i j jr jn kt kt2 k2 : Nat} {q00 qm qr pt2 q2t ql qn ql2 qr2 p1 p2 p3 tp pa pb q1 q2 q3 tpos tpos' : Pos} {params : Arguments} {body : Expr} {scope : Scope} {p lpos pos : Pos}
    (F : Fun K x x st g fd) (eK : X.K = K) (hm : X.mg x = some (.ref g)) (hgd : X.A.guards = some []) (hr : Room (k + 2) X.A) (Sg : FnScope Ng [a] (defScope st))
    (hbg : defBody st = .Assign [.Tuple [.Name m qm, .Name r qr] kt2 pt2] (.Tuple [.Constant .none jn qn, .List [] ql] k2 q2t) q00 :: .Try [.Assign [.Name r qr2] (.List [.Call (.Name a p1) [] [] p2] ql2) p3] [.ExceptHandler (some (.Tuple [.Name x1 pa, .Name x2 pb] kt tp)) (some n) [.Assign [.Name m q1] (.Name n q2) q3] tpos'] [] [] tpos :: rest)
    (hb : ∀ (kV doc pm : Value) (an : Option Addr) (cdv ct : Value) (us : List Value), us.length = 1 → bindArgs (PySem.W.fnOf x x (defArgs st) (defBody st) (defScope st) .none kV doc pm an cdv ct) ⟨us, []⟩ = pure ([a].zip us))
    (hN : Ng.Nodup) (ha : Ng[0]? = some a) (hi : Ng[i]? = some n) (hj : Ng[j]? = some m) (hjr' : Ng[jr]? = some r) (hij : i ≠ j) (hj0 : j ≠ 0) (hr0 : jr ≠ 0) (hjr : j ≠ jr) (hva : Vis (defScope st) a) (hln : (defScope st).names.lookup n = some .local) (hlm : (defScope st).names.lookup m = some .local) (hlr : (defScope st).names.lookup r = some .local)
    (g1 : (defScope st).names.lookup x1 = some .globalImplicit) (g2 : (defScope st).names.lookup x2 = some .globalImplicit) (m1 : X.mg x1 = some c1) (m2 : X.mg x2 = some c2) (b1 : (x1 == ("__debug__" : Str)) = false) (b2 : (x2 == ("__debug__" : Str)) = false)
    (hJ : RestOk X Ng x st g rest mrest) (TB : TabB X.base X.mg c P) (hcode : X.env.code = .ref c) (hmT : (P, X.env.qual ++ "<lambda>") ∈ T) (hu : ∀ p ∈ T, p.1 = P → p.2 = X.env.qual ++ "<lambda>") (L : LamS X.env.scope scope)
    (hbody : ∀ (A : Around) (outer : List PySem.Env) (s : Shared) (H : Hp) (E : XK) (f c' : Addr), (lamCx X A outer s H E scope f c').A.guards = some [] → Room k (lamCx X A outer s H E scope f c').A → JE (lamCx X A outer s H E scope f c') body me)
    (sw1 : ∀ (cdv : Value) (s : Shared) (H : Hp), swapsWith (.Name n q2) (some (.Name m q1)) q3.line (TCx X Ng x st g cdv s H).env = pure false := by intros; rfl)
    (sw2 : ∀ (cdv : Value) (s : Shared) (H : Hp), swapsWith (.List [.Call (.Name a p1) [] [] p2] ql2) (some (.Name r qr2)) p3.line (TCx X Ng x st g cdv s H).env = pure false := by intros; rfl)
    (sw3 : ∀ (cdv : Value) (s : Shared) (H : Hp), swappedStores [.Tuple [.Name m qm, .Name r qr] kt2 pt2] (.Tuple [.Constant .none jn qn, .List [] ql] k2 q2t) (TCx X Ng x st g cdv s H).env = pure (some [m, r]) := by intros; rfl)
    (sw4 : ∀ (cdv : Value) (s : Shared) (H : Hp), swapsWithSole [.Tuple [.Name m qm, .Name r qr] kt2 pt2] (.Tuple [.Constant .none jn qn, .List [] ql] k2 q2t) q00.line (TCx X Ng x st g cdv s H).env = pure false := by intros; rfl)
    (hcalm : ∀ (cdv : Value) (s : Shared) (H : Hp), (TCx X Ng x st g cdv s H).calm = true := by intros; rfl)
    (hg : Gl X x := by rfl) (hdef : defaultsOf params X.env = ([], []) := by rfl)
    (hbind : ∀ (q : Str) (cl : List (Str × Addr)) (pm cv ctv : Value), bindArgs (PySem.W.kla_fn "<lambda>" q params body scope cl pm cv ctv) ⟨[], []⟩ = pure [] := by intros; rfl)
    (hdb : (x == ("__debug__" : Str)) = false := by decide) (hd : (a == ("__debug__" : Str)) = false := by decide) (hcd : (a == ("__classdict__" : Str)) = false := by decide) (hdn : (n == ("__debug__" : Str)) = false := by decide) (hcn : (n == ("__classdict__" : Str)) = false := by decide) :
    JE X (.Call (.Name x p) [.Lambda params body scope lpos] [] pos) (mLamG T (mTellB Ng.length j jr (fun C => PySem.W.exmAny X.K (.ref C) [c1, c2]) mrest) me) := by
  subst eK
  obtain ⟨oc, od, kV, doc, pm, an, cdv, ct, osl, rfl, lk, hcv⟩ := F.ex
  have hB : L2.Binds X.K (PySem.W.fnOf x x (defArgs st) (defBody st) (defScope st) .none kV doc pm an cdv ct) [a] [] := Binds.all fun us hl => hb kV doc pm an cdv ct us hl
  rw [hbg] at lk hB
  refine je_lamG (k := k) hg hm F.kp hgd lk hcv hB Sg ha hva (gives_keepB hN ha hi hj hjr' hij hj0 hr0 hjr hln hlm hlr (fun s H => hcalm cdv s H) (fun s H => ⟨g1, b1, .inl m1⟩) (fun s H => ⟨g2, b2, .inl m2⟩) hdn hcn (fun s H => sw1 cdv s H) (fun s H => sw2 cdv s H) (fun s H => sw3 cdv s H) (fun s H => sw4 cdv s H) fun s H => hJ cdv s H) TB hcode hmT hu hr L hdef hbind hbody hdb hd hcd
end
end Mir
end

section
set_option Elab.async false
set_option linter.all false
set_option maxRecDepth 100000
set_option maxHeartbeats 1001000
/-! sorted(dict) of integers; a list tested by its truth. -/
namespace Mir
open PySem L2
def rSortedK : List V → Hp → VK → Prop := fun xs H Q => ∃ (a : Addr) (kvs : List (Key × V)) (ks : List Int), xs = [.ref a] ∧ Rd H a (.dK kvs) ∧ kvs.map (·.1) = ks.map Sum.inl ∧ ks.length < 64 ∧
    ∀ (ys : List Int) (p : Addr), ys.Perm ks → ys.Pairwise (· ≤ ·) → H p = none → Q (.ref p) (upd H p (.lst (ys.map V.int)))
theorem call_sortedK {X : Cx} (hc : X.calm = true) : CallR X (.builtin "sorted") rSortedK := call_sortedDI hc
def fSortedK : FA := fun ds S k => match ds with
  | [.dct ks _] => ∃ is : List Int, ks = is.map Sum.inl ∧ is.length < 64 ∧ ∀ ys : List Int, ys.Perm is → ys.Pairwise (· ≤ ·) → k (.lst (ys.map D.int))
  | _ => False
theorem snd_sortedK {K : PySem.W.Frag} : SndA K fSortedK rSortedK := by
  intro W xs ds Q Qm rs r k m
  unfold fSortedK at m
  split at m
  · obtain ⟨is, e, hl, m⟩ := m
    cases r with
    | cons r1 r2 =>
      cases r2
      cases r1 with
      | dct h1 h2 h3 h4 =>
        rename_i a o vs
        refine ⟨a, _, is, rfl, .inr ⟨_, h1⟩, ?_, hl, fun ys p hp hs hn => ?_⟩
        · rw [List.map_fst_zip (by omega)]
          exact e
        · exact k.lst rs (RDs.ints ys) (m ys hp hs) p hn
  · exact m.elim
theorem sortedK_at {S : Store} {k : D → Prop} {is : List Int} {ds : List D} (hl : is.length < 64) (h : ∀ ys : List Int, ys.Perm is → ys.Pairwise (· ≤ ·) → k (.lst (ys.map D.int))) : fSortedK [.dct (is.map Sum.inl) ds] S k := ⟨is, rfl, hl, h⟩
section
variable {X : Cx} {e : Expr} {me : Mr D}
def mTruL (me : Mr D) : Mr Bool := fun ρ S Q X => me ρ S (fun d S1 => match asL S1 d with
  | some xs => Q (!xs.isEmpty) S1
  | none => False) X
theorem jt_truL (he : JE X e me) (hw : ∀ whole, isTrue e X.env whole = (do let v ← whole; standAt e.pos; holding [v] (truthy v)) := by intro _; rfl) : JT X e (mTruL me) :=
  ⟨fun Wx tk => pt_imp (pt_truth (he.pe Wx tk) hw) fun σ H Q ⟨W, ρ, Qm, Xm, eH, rs, re, xr, k, m⟩ => by
    subst eH
    refine ⟨W, ρ, _, Xm, rfl, rs, re, xr, fun W1 x d l rs1 r1 m1 => ?_, m⟩
    split at m1
    · rename_i xs ea
      obtain ⟨p, vs, rfl, hs, hr⟩ := asL_of (K := X.K) rs1 r1 ea
      refine ⟨!vs.isEmpty, .inl ⟨vs, hs, rfl⟩, ?_⟩
      have el : vs.isEmpty = xs.isEmpty := by
        have := hr.length
        cases vs <;> cases xs <;> simp_all
      rw [el]
      exact k W1 _ _ l rs1 rfl m1
    · exact m1.elim⟩
end
section
variable {X : Cx} {i o : Expr} {mi mo : Mr D} {pos : Pos}
theorem jt_dhas (hu : X.A.units + 1 < cLine) (hi : JE X i mi) (ho : JE X o mo) (h1 : behindInMarks .In o = false := by rfl) : JT X (.Compare i [.In] [o] pos) (mT (mDHas false mi mo)) :=
  ⟨fun Wx tk => pt_imp (pt_cmp (pc_din hu (hi.pe Wx tk) (ho.pe Wx tk)) h1) fun σ H Q h => by
    have z := dhas_of (test_of h)
    simp only [Bool.false_xor] at z
    exact z⟩
theorem jt_dnhas (hu : X.A.units + 1 < cLine) (hi : JE X i mi) (ho : JE X o mo) (h1 : behindInMarks .NotIn o = false := by rfl) : JT X (.Compare i [.NotIn] [o] pos) (mT (mDHas true mi mo)) :=
  ⟨fun Wx tk => pt_imp (pt_cmp (pc_dnotin hu (hi.pe Wx tk) (ho.pe Wx tk)) h1) fun σ H Q h => by
    have z := dhas_of (test_of h)
    simp only [Bool.true_xor] at z
    exact z⟩
end
section
variable {S : Store} {Q : Bool → Store → Prop} {X : XC} {ρ : Mir.Env}
def trK (Q : Bool → Store → Prop) : D → Store → Prop := fun d S1 => match asL S1 d with
  | some xs => Q (!xs.isEmpty) S1
  | none => False
theorem truL_at {me : Mr D} (h : me ρ S (trK Q) X) : mTruL me ρ S Q X := h
theorem trK_r {l : Nat} {xs : List D} (e : S l = some (.lst xs)) (h : Q (!xs.isEmpty) S) : trK Q (.ref l) S := by
  unfold trK
  rw [asL_r e]
  exact h
end
end Mir
end

section
set_option Elab.async false
set_option linter.all false
set_option maxRecDepth 100000
set_option maxHeartbeats 1001000
/-! Steps on dicts with integer keys. -/
namespace Mir
open PySem L2
section
variable {S : Store} {k : D → Prop} {Q : D → Store → Prop} {X : XC} {ρ : Mir.Env} {M : ME}
/-- {t: d} -/
def d1K (l : Nat) (t : Int) (Q : D → Store → Prop) : D → Store → Prop := fun d S2 => S2 l = some (.dk []) ∧ Q (.ref l) (put S2 l (.dk [(.inl t, d)]))
theorem disp1 {i : Nat} {t : Int} {me : Mr D} (hi : ρ[i]? = some (some (.int t))) (h : ∀ l, S l = none → me ρ (put S l (.dk [])) (d1K l t Q) X) : mDisp [(mVar i, me)] ρ S Q X := by
  intro l hl
  have key : d1K l t Q = fun d S2 => S2 l = some (.dk []) ∧ match keysD [(D.int t, d)] with
      | some kvs => kvs.length ≤ 15 ∧ Q (.ref l) (put S2 l (.dk (mergeD [] kvs)))
      | none => False := by
    funext d S2
    show (S2 l = some (.dk []) ∧ Q (.ref l) (put S2 l (.dk [(.inl t, d)]))) = (S2 l = some (.dk []) ∧ 1 ≤ 15 ∧ Q (.ref l) (put S2 l (.dk [(.inl t, d)])))
    simp
  have z := h l hl
  rw [key] at z
  refine var_at (X := X) (Q := fun x S1 => me ρ S1 (fun y S2 => S2 l = some (.dk []) ∧ match keysD [(x, y)] with
      | some kvs => kvs.length ≤ 15 ∧ Q (.ref l) (put S2 l (.dk (mergeD [] kvs)))
      | none => False) X) hi z
theorem d1K_at {l : Nat} {t : Int} {d : D} (e : S l = some (.dk [])) (h : Q (.ref l) (put S l (.dk [(.inl t, d)]))) : d1K l t Q d S := ⟨e, h⟩
def kyK (q : Pk → Store → Prop) : D → Store → Prop := fun d S1 => match d with
  | .dct ks ds => q ((ks.zip ds).map fun p => kD p.1, fun _ => True) S1
  | _ => False
theorem keys_to {me : Mr D} {q : Pk → Store → Prop} (h : me ρ S (kyK q) X) : mKeys me ρ S q X := h
theorem kyK_d {q : Pk → Store → Prop} {ks : List Key} {ds : List D} (h : q ((ks.zip ds).map fun p => kD p.1, fun _ => True) S) : kyK q (.dct ks ds) S := h
def dhK (n : Bool) (Q : D → Store → Prop) (i : D) : D → Store → Prop := fun o S2 => match dkR S2 o, keyD i with
  | some kvs, some q => Q (.bl (n ^^ (look kvs q).isSome)) S2
  | _, _ => False
theorem dhas_at {n : Bool} {mi mo : Mr D} (h : mi ρ S (fun i S1 => mo ρ S1 (dhK n Q i) X) X) : mDHas n mi mo ρ S Q X := h
theorem dhK_r {n : Bool} {l : Nat} {t : Int} {kvs : List (Key × D)} (e : S l = some (.dk kvs)) (h : Q (.bl (n ^^ (look kvs (.inl t)).isSome)) S) : dhK n Q (.int t) (.ref l) S := by
  have e2 : dkR S (.ref l) = some kvs := by simp only [dkR, e, Option.bind_some]
  unfold dhK
  rw [e2]
  exact h
theorem dhK_d {n : Bool} {t : Int} {ks : List Key} {ds : List D} (h : Q (.bl (n ^^ (look (ks.zip ds) (.inl t)).isSome)) S) : dhK n Q (.int t) (.dct ks ds) S := h
theorem datI_r {l : Nat} {kvs : List (Key × D)} {d : D} {t : Int} (e : S l = some (.dk kvs)) (h1 : look kvs (.inl t) = some d) (h : k d) : fDAt (.ref l) (.int t) S k := by
  have e2 : dkR S (.ref l) = some kvs := by simp only [dkR, e, Option.bind_some]
  unfold fDAt
  rw [e2]
  dsimp only [keyD]
  rw [h1]
  exact h
theorem datI_d {ks : List Key} {ds : List D} {d : D} {t : Int} (h1 : look (ks.zip ds) (.inl t) = some d) (h : k d) : fDAt (.dct ks ds) (.int t) S k := by
  unfold fDAt
  dsimp only [dkR, keyD]
  rw [h1]
  exact h
theorem listN_at {i : Nat} {d : D} {xs : List D} (hi : ρ[i]? = some (some d)) (e : asQ S d = some xs) (h : ∀ b, S b = none → Q (.ref b) (put S b (.lst xs))) : mListN (mCons (mVar i) mNil) ρ S Q X := by
  unfold mListN
  refine cons_at (var_at hi (nil_at ?_))
  simp only [e]
  exact h
/-- a living dict made a value -/
theorem frzK_at {me : Mr D} (h : me ρ S (fun d S1 => match frzs S1 [d] with
    | some ([x], T) => Q x T
    | _ => False) X) : mFrzK me ρ S Q X := h
theorem frzK_r {l : Nat} {kvs : List (Key × D)} (e : S l = some (.dk kvs)) (h : Q (.dct (kvs.map (·.1)) (kvs.map (·.2))) (del S l)) : (match frzs S [D.ref l] with
    | some ([x], T) => Q x T
    | _ => False) := by
  rw [frzs, e]
  simp only [frzs, Option.map_some]
  exact h
end
section
variable {κ : Type}
    [DecidableEq κ]
theorem look_cons {k q : κ} {d : D} {r : List (κ × D)} : look ((k, d) :: r) q = if k = q then some d else look r q := by
  unfold look
  rw [List.find?_cons]
  by_cases h : k = q
  · rw [if_pos h]
    simp [h]
  · rw [if_neg h]
    simp [h]
theorem look_none {kvs : List (κ × D)} {q : κ} (h : ∀ p ∈ kvs, p.1 ≠ q) : look kvs q = none := by
  unfold look
  rw [List.find?_eq_none.mpr fun p hp => by simpa using h p hp]
  rfl
theorem look_some : ∀ {kvs : List (κ × D)} {q : κ} {d : D}, (kvs.map (·.1)).Nodup → (q, d) ∈ kvs → look kvs q = some d
  | [], _, _, _, h => nomatch h
  | (k, e) :: r, q, d, hd, h => by
    rw [List.map_cons, List.nodup_cons] at hd
    rw [look_cons]
    rcases List.mem_cons.mp h with h | h
    · cases h
      rw [if_pos rfl]
    · rw [if_neg fun z => hd.1 (List.mem_map.mpr ⟨(q, d), h, z.symm⟩)]
      exact look_some hd.2 h
theorem look_of {kvs : List (κ × D)} {q : κ} {d : D} (h : look kvs q = some d) : (q, d) ∈ kvs := by
  unfold look at h
  cases e : kvs.find? fun kv => decide (kv.1 = q) with
  | none =>
      rw [e] at h; cases h
  | some p =>
    rw [e] at h
    cases h
    have h1 := List.mem_of_find?_eq_some e
    have h2 := List.find?_some e
    simp at h2
    rw [← h2]
    exact h1
theorem stor_fresh {kvs : List (κ × D)} {q : κ} {v : D} (h : ∀ p ∈ kvs, p.1 ≠ q) : stor kvs q v = kvs ++ [(q, v)] := by
  unfold stor
  rw [if_neg]
  intro z
  obtain ⟨p, hp, e⟩ := List.any_eq_true.mp z
  exact h p hp (of_decide_eq_true e)
theorem zip_map {α : Type} {f : α → κ} {g : α → D} : ∀ xs : List α, (xs.map f).zip (xs.map g) = xs.map fun x => (f x, g x)
  | [] => rfl
  | x :: xs => by rw [List.map_cons, List.map_cons, List.map_cons, List.zip_cons_cons, zip_map xs]
end
end Mir
end

section
set_option Elab.async false
set_option linter.all false
set_option maxRecDepth 100000
set_option maxHeartbeats 801000
/-! Comprehensions told of a list of one's own. -/
namespace Mir
open PySem L2
theorem lc_m_go {α : Type} (g : α → D) {t : Tg} {c : Mr Bool} {e : Mr D} {l : Nat} {Kp : Store → Prop} {ρ : Mir.Env} {S : Store} {Q : Store → Prop} (P : α → Bool) (f : α → D) (hK : ∀ acc, Kp (put S l (.lst acc))) : ∀ {ds : List α} {acc : List D}, acc.length + ds.length ≤ 100000 →
    (∀ d ∈ ds, ∀ (acc' : List D) (Q' : Bool → Store → Prop) (X : XC), Q' (P d) (put S l (.lst acc')) → match t.b (g d) ρ with
      | some ρ1 => c ρ1 (put S l (.lst acc')) Q' X
      | none => False) →
    (∀ d ∈ ds, P d = true → ∀ (acc' : List D) (Q' : D → Store → Prop) (X : XC), Q' (f d) (put S l (.lst acc')) → match t.b (g d) ρ with
      | some ρ1 => e ρ1 (put S l (.lst acc')) Q' X
      | none => False) →
    Q (put S l (.lst (acc ++ (ds.filter P).map f))) → goLc t c e l Kp ρ (ds.map g) (put S l (.lst acc)) Q
  | [], acc, _, _, _, h => ⟨hK acc, by
      rw [List.filter_nil, List.map_nil, List.append_nil] at h
      exact h⟩
  | d :: ds, acc, hs, st, el, h => ⟨hK acc, by
      rw [List.length_cons] at hs
      have z := st d List.mem_cons_self acc (fun b S1 => if b = true then e ((t.b (g d) ρ).getD ρ) S1 (fun y S2 => match S2 l with
        | some (.lst acc) => small (acc.length + 1) ∧ goLc t c e l Kp ρ (ds.map g) (put S2 l (.lst (acc ++ [y]))) Q
        | _ => False) (fun _ _ _ => False) else goLc t c e l Kp ρ (ds.map g) S1 Q) (fun _ _ _ => False) (by
          cases hp : P d with
          | false =>
            rw [if_neg (by decide)]
            rw [List.filter_cons_of_neg (by rw [hp]; decide)] at h
            exact lc_m_go g P f hK (by omega) (fun d' hd' => st d' (List.mem_cons_of_mem _ hd')) (fun d' hd' => el d' (List.mem_cons_of_mem _ hd')) h
          | true =>
            rw [if_pos rfl]
            rw [List.filter_cons_of_pos hp, List.map_cons] at h
            have y := el d List.mem_cons_self hp acc (fun y S2 => match S2 l with
              | some (.lst acc) => small (acc.length + 1) ∧ goLc t c e l Kp ρ (ds.map g) (put S2 l (.lst (acc ++ [y]))) Q
              | _ => False) (fun _ _ _ => False) (by
                rw [put_same]
                refine ⟨show _ ≤ 100000 by omega, ?_⟩
                rw [put_put]
                refine lc_m_go g P f hK (by rw [List.length_append, List.length_singleton]; omega) (fun d' hd' => st d' (List.mem_cons_of_mem _ hd')) (fun d' hd' => el d' (List.mem_cons_of_mem _ hd')) ?_
                rw [List.append_assoc]
                exact h)
            split at y
            · rename_i ρ1 e1
              rw [e1]
              exact y
            · exact y.elim)
      split
      · rename_i e1
        rw [e1] at z
        exact z
      · rename_i ρ1 e1
        rw [e1] at z
        exact z⟩
theorem lc_m {α : Type} (xs : List α) (g : α → D) {it : Mr Pk} {t : Tg} {vs : List Nat} {c : Mr Bool} {e : Mr D} {ρ : Mir.Env} {S : Store} {Q : D → Store → Prop} {X : XC} (Kp : Store → Prop) (P : α → Bool) (f : α → D) (hi : ∀ Q' : Pk → Store → Prop, Q' (xs.map g, Kp) S → it ρ S Q' X) (hs : xs.length ≤ 100000)
    (hK : ∀ l, S l = none → ∀ acc, Kp (put S l (.lst acc)))
    (st : ∀ l, S l = none → ∀ d ∈ xs, ∀ (acc' : List D) (Q' : Bool → Store → Prop) (X : XC), Q' (P d) (put S l (.lst acc')) → match t.b (g d) (wipM ρ vs) with
      | some ρ1 => c ρ1 (put S l (.lst acc')) Q' X
      | none => False)
    (el : ∀ l, S l = none → ∀ d ∈ xs, P d = true → ∀ (acc' : List D) (Q' : D → Store → Prop) (X : XC), Q' (f d) (put S l (.lst acc')) → match t.b (g d) (wipM ρ vs) with
      | some ρ1 => e ρ1 (put S l (.lst acc')) Q' X
      | none => False)
    (fin : Q (.lst ((xs.filter P).map f)) S) : mLc it t vs c e ρ S Q X := by
  refine hi _ fun l hl => lc_m_go g P f (hK l hl) (by simpa using hs) (st l hl) (el l hl) ?_
  rw [put_same]
  dsimp only
  rw [del_put hl, List.nil_append]
  exact fin
end Mir
end

section
set_option Elab.async false
set_option linter.all false
set_option maxRecDepth 100000
set_option maxHeartbeats 801000
/-! == of data that hold living lists. -/
namespace Mir
open PySem L2
mutual
/-- plain data, where `f` tells of living lists -/
def pyX (f : D → Option PyData) : D → Option PyData
  | .non => some .none
  | .bl b => some (.bool b)
  | .int i => some (.int i)
  | .str s => some (.str s)
  | .tup xs => (pysX f xs).map PyData.tuple
  | .lst xs => (pysX f xs).map PyData.list
  | .frz xs => (pysX f xs).map PyData.list
  | .ref l => f (.ref l)
  | .dct _ _ => none
  | .dctT _ _ => none
def pysX (f : D → Option PyData) : List D → Option (List PyData)
  | [] => some []
  | d :: ds => (pyX f d).bind fun p => (pysX f ds).map fun q => p :: q
end
mutual
theorem RD.dpX {K : PySem.W.Frag} {W : Wd} {f : D → Option PyData} (R : RS K W) (hf : ∀ {l : Nat} {v : V} {p : PyData}, RD W v (.ref l) → f (.ref l) = some p → Dp K W.H v p) : ∀ {d : D} {v : V} {p : PyData}, RD W v d → pyX f d = some p → Dp K W.H v p
  | .non, _, _, .non, h => by cases h; exact .non
  | .bl _, _, _, .bl b, h => by cases h; exact .bl b
  | .int _, _, _, .int i, h => by cases h; exact .int i
  | .str _, _, _, .str s, h => by cases h; exact .str s
  | .tup ds, _, _, .tup h1 _ h3, h => by
    rw [pyX] at h
    cases e : pysX f ds with
    | none =>
        rw [e] at h; cases h
    | some q =>
      rw [e] at h; cases h
      exact .tup (.inl (.inl h1)) (RDs.dpX R hf h3 e)
  | .lst ds, _, _, .lst h1 _ h3, h => by
    rw [pyX] at h
    cases e : pysX f ds with
    | none =>
        rw [e] at h; cases h
    | some q =>
      rw [e] at h; cases h
      exact .lst (.inl (.inl h1)) (RDs.dpX R hf h3 e)
  | .frz ds, _, _, .frz h1 h3, h => by
    rw [pyX] at h
    cases e : pysX f ds with
    | none =>
        rw [e] at h; cases h
    | some q =>
      rw [e] at h; cases h
      exact .lst (h1.sq R) (RDs.dpX R hf h3 e)
  | .ref _, _, _, r, h => by rw [pyX] at h; exact hf r h
  | .dct _ _, _, _, _, h => by rw [pyX] at h; cases h
  | .dctT _ _, _, _, _, h => by rw [pyX] at h; cases h
theorem RDs.dpX {K : PySem.W.Frag} {W : Wd} {f : D → Option PyData} (R : RS K W) (hf : ∀ {l : Nat} {v : V} {p : PyData}, RD W v (.ref l) → f (.ref l) = some p → Dp K W.H v p) : ∀ {ds : List D} {vs : List V} {q : List PyData}, RDs W vs ds → pysX f ds = some q → DpAll K W.H vs q
  | [], _, _, .nil, h => by cases h; exact .nil
  | d :: ds, _, _, .cons a r, h => by
    rw [pysX] at h
    cases e : pyX f d with
    | none =>
        rw [e] at h; cases h
    | some p =>
      rw [e] at h
      cases e2 : pysX f ds with
      | none => rw [e2] at h; cases h
      | some q =>
        rw [e2] at h; cases h
        exact .cons (RD.dpX R hf a e) (RDs.dpX R hf r e2)
end
/-- living lists within living lists, so deep -/
def pyN (S : Store) : Nat → D → Option PyData
  | 0 => fun _ => none
  | n + 1 => pyX fun d => (asL S d).bind fun xs => (pysX (pyN S n) xs).map PyData.list
theorem RD.dpN {K : PySem.W.Frag} {W : Wd} (R : RS K W) : ∀ {n : Nat} {d : D} {v : V} {p : PyData}, RD W v d → pyN W.S n d = some p → Dp K W.H v p
  | 0, _, _, _, _, h =>
      by cases h
  | n + 1, d, v, p, r, h => by
    refine RD.dpX R (fun {l v p} r h => ?_) r h
    cases e : asL W.S (.ref l) with
    | none =>
        rw [e] at h; cases h
    | some xs =>
      rw [e] at h
      cases e2 : pysX (pyN W.S n) xs with
      | none => rw [Option.bind_some, e2] at h; cases h
      | some q =>
        rw [Option.bind_some, e2] at h; cases h
        obtain ⟨a, vs, rfl, h1, h2⟩ := asL_of (K := K) R r e
        exact .lst h1 (RDs.dpX R (fun {l v p} r h => RD.dpN R (n := n) r h) h2 e2)
def fEqX : F2 := fun a b S k => match pyN S 4 a, pyN S 4 b with
  | some p, some q => SeqAt.shaped p = true ∧ SeqAt.shaped q = true ∧ k (.bl (PyData.eqv p q))
  | _, _ => False
theorem snd_eqX {K : PySem.W.Frag} : Snd2 K fEqX (rEqM K) := by
  intro W x y a b Q Qm rs ra rb k m
  unfold fEqX at m
  split at m
  · rename_i p q e1 e2
    exact .inr ⟨p, q, ra.dpN rs e1, rb.dpN rs e2, m.1, m.2.1, k W _ _ (Le.refl W) rs (.bl _) m.2.2⟩
  · exact m.elim
theorem eqX_at {S : Store} {a b : D} {p q : PyData} {k : D → Prop} (ha : pyN S 4 a = some p) (hb : pyN S 4 b = some q) (sa : SeqAt.shaped p = true) (sb : SeqAt.shaped q = true) (h : k (.bl (PyData.eqv p q))) : fEqX a b S k := by
  unfold fEqX
  rw [ha, hb]
  exact ⟨sa, sb, h⟩
end Mir
end

section
set_option Elab.async false
set_option linter.all false
set_option maxRecDepth 100000
set_option maxHeartbeats 1001000
/-! t * 0 is an empty tuple. -/
namespace Mir
open L2 PyProof.Rows PySem PySem.Spec
theorem tuple_nought (l : Addr) (its : Array Value) (n : Nat) (dd : Option Addr) (sl : Array (Option Value)) (u : Tok) (hi : its.isEmpty = false) :
    Meets (Builtin.«tuple.__mul__» ⟨[.ref l, .int 0 u], []⟩) (fun _ R s => s.heap.get? l = some { cls := .type "tuple", dict := dd, data := .seq its n, slots := sl } ∧ R (.ok (.ret (Value.ref s.heap.objs.size))) { s with heap := s.heap.push { cls := Value.type "tuple", data := Data.seq #[] }, toks := s.toks }) :=
  .of_wp fun prog w A R s h =>
      by
    obtain ⟨hp, g, d, tk, os⟩ :=
        s
    obtain ⟨hl, h⟩ := h
    have f1 := AutoSeq1.idx_int
    have c0 : ¬ (decide ((0 : Int) < -(2 ^ 63)) || decide ((0 : Int) ≥ 2 ^ 63)) = true := by decide
    have c1 : ¬ (its.isEmpty || (0 : Int) == 1) = true := by rw [hi]; decide
    have c2 : (decide ((0 : Int) ≤ 0) || its.isEmpty) = true := by rw [hi]; decide
    wp_walk using
        wpAny_loadPart' hl
    repeat (first
      | (refine wpAny_ite_false (decide_eq_false c0) ?_; wp_walk using wpAny_loadPart' hl)
      | (refine wpAny_ite_false (decide_eq_false c1) ?_; wp_walk using wpAny_loadPart' hl)
      | (refine wpAny_ite_true (decide_eq_true c2) ?_; wp_walk using wpAny_loadPart' hl))
    exact ⟨_, rfl, h⟩
def rNought (K : PySem.W.Frag) : R2 := fun x y H Q => ∃ l xs, x = .ref l ∧ y = .int 0 ∧ SqT K H l xs ∧ xs ≠ [] ∧ ∀ p, H p = none → Q (.ref p) (upd H p (.tup []))
theorem op_nought {X : Cx} : OpR X (binaryOp .Mult) (rNought X.K) := by
  intro pins s σ H x
      y v u Q I rx ry h
  obtain ⟨l, xs, rfl, rfl, hT, hne, q⟩ := h
  cases rx
  obtain ⟨t, rfl⟩ := ry
  obtain ⟨its, r, ⟨⟨cls, dd, data, sl⟩, ho, hc, n, hd⟩, hs⟩ :=
      I.tuple hT
  simp only at hc hd
  subst hc hd
  have hle : its.length = xs.length :=
      r.length.symm
  have hn : its ≠ [] :=
      fun e => hne (by
    rw [e] at hle
    exact List.eq_nil_of_length_eq_zero
        hle.symm)
  have hi : its.toArray.isEmpty = false :=
      by
    cases its with
    | nil => exact absurd rfl hn
    | cons a b => rfl
  refine wpAny_binaryOp_repeat_ref (T := "tuple") (U := "int") (by decide) ⟨_, ho, rfl⟩ (fun s' => typeIs_int s' 0 t) noFill_tuple_mul F.fills_int_mul F.slot_int_rmul repeat_tuple F.slot_int_index.lookup
    (call_meets F.slot_int_rmul (typeIs_int s 0 t) F.entry_int_rmul (F.args_int_rmul_2 _ _) (int_rmul_tuple 0 t l its.toArray n dd sl)
      ⟨ho, rfl, ⟨_, ho, rfl⟩, call_meets F.slot_tuple_mul ⟨_, ho, rfl⟩ F.entry_tuple_mul (F.args_tuple_mul_2 _ _) (tuple_nought l its.toArray n dd sl t hi) ⟨ho, ?_⟩⟩)
  refine ⟨.ref s.heap.objs.size, _, I.laid (t' := s.toks) (o := .tup []) (fun b ob q => Heap.get?_push_of_some _ q) (Nat.le_refl _) ?_, rfl, q _ (I.hok.fresh (Nat.le_refl _))⟩
  exact ⟨by decide, [], .nil, IsTup.new _ _⟩
def fMulY : F2 := fun a b S k => (∃ xs, a = .tup xs ∧ b = .int 0 ∧ xs ≠ [] ∧ k (.tup [])) ∨ fMulZ a b S k
def rMulY (K : PySem.W.Frag) : R2 := fun x y H Q => rNought K x y H Q ∨ rMulZ K x y H Q
theorem op_mulY {X : Cx} : OpR X (binaryOp .Mult) (rMulY X.K) := op_nought.or op_mulZ
theorem snd_mulY {K : PySem.W.Frag} : Snd2 K fMulY (rMulY K) := by
  intro W x y a b Q Qm rs ra rb k m
  rcases m with ⟨xs, rfl, rfl, hne, q⟩ | m
  · obtain ⟨l, vs, rfl, h1, h2⟩ := tup_of (K := K) ra
    cases rb
    exact .inl ⟨l, vs, rfl, rfl, h1, fun e => hne (by subst e; cases h2; rfl), k.tup rs .nil q⟩
  · exact .inr (snd_mulZ W x y a b Q Qm rs ra rb k m)
end Mir
end

section
set_option Elab.async false
set_option linter.all false
set_option maxRecDepth 100000
set_option maxHeartbeats 1001000
/-! xs.count(b), bools. -/
namespace Mir
open PySem L2 PyProof.Rows
theorem vals_bools : ∀ {bs : List Bool} {us : List Value}, Vals (bs.map V.bl) us → us = bs.map Value.bool
  | [], _, .nil => rfl
  | b :: bs, u :: us, .cons r t => by
    have e : u = Value.bool b := r
    rw [e, vals_bools t]; rfl
theorem cnt_bools (k : Bool) : ∀ bs : List Bool, (bs.map Value.bool).countP (isBoolOf k) = bs.count k
  | [] => rfl
  | b :: bs => by
    rw [List.map_cons, List.countP_cons, List.count_cons, cnt_bools k bs]
    rfl
/-- xs.count(b) -/
def rCntB (K : PySem.W.Frag) : V → List V → Hp → VK → Prop := fun x xs H Q => ∃ (p : Addr) (bs : List Bool) (k : Bool), x = .ref p ∧ xs = [.bl k] ∧ SqL K H p (bs.map V.bl) ∧ Q (.int (bs.count k : Nat)) H
theorem mt_cntB {X : Cx} : MtR X "list.count" (rCntB X.K) := by
  rintro pins s σ H x xs v us Q I rx rxs ⟨p, bs, k, rfl, rfl, hs, q⟩
  cases rx
  obtain ⟨u, rfl, ru⟩ :=
      rxs.one
  have eu : u = Value.bool k := ru
  subst eu
  obtain ⟨its, rv, ⟨⟨cls, dd, data, sl⟩, n, ho, hc, hdn, hd⟩, hlen⟩ :=
      I.list hs
  have hc : cls = .type "list" := hc
  have hd : data = .seq its.toArray n := hd
  subst hc hd
  have ei := vals_bools rv
  subst ei
  refine call_meets PySem.F.slot_list_count ⟨_, ho, rfl⟩ PySem.F.entry_list_count (PySem.F.args_list_count_2 _ _) (SeqAt.list_countAt p _ n dd sl (.bool k) (isBoolOf k)) ⟨ho, fun y hy => ?_, ?_⟩
  · have hy' : y ∈ bs.map Value.bool := by simpa using hy
    obtain ⟨b, _, rfl⟩ := List.mem_map.mp hy'
    exact SeqAt.EqAt.bool_bool b k
  · refine ⟨.int (bs.count k : Nat), H, I.tok _, ⟨s.toks, ?_⟩, q⟩
    show Value.int (((bs.map Value.bool).countP (isBoolOf k) : Nat) : Int) s.toks = _
    rw [cnt_bools]
def bls : List D → Option (List Bool)
  | [] => some []
  | .bl b :: r => (bls r).map (b :: ·)
  | _ => none
theorem bls_of {W : Wd} : ∀ {ds : List D} {bs : List Bool} {vs : List V}, bls ds = some bs → RDs W vs ds → vs = bs.map V.bl
  | [], bs, vs, h, r => by cases h; cases r; rfl
  | d :: ds, bs, vs, h, r => by
    cases r with
    | cons a t =>
      cases d with
      | bl b =>
        rw [bls] at h
        cases e : bls ds with
        | none =>
            rw [e] at h; cases h
        | some cs =>
          rw [e] at h
          cases h
          cases a
          rw [bls_of e t]; rfl
      | _ => cases h
def mCntB (mo : Mr D) (false_or_by_contra : Mr (List D)) : Mr D := fun ρ S Q X => mo ρ S (fun o S1 => match o with
  | .lst ds => ∃ bs, bls ds = some bs ∧ false_or_by_contra ρ S1 (fun es S2 => match es with
    | [.bl k] => Q (.int ((bs.count k : Nat) : Int)) S2
    | _ => False) X
  | _ => False) X
theorem je_cntB {X : Cx} {o e : Expr} {mo : Mr D} {false_or_by_contra : Mr (List D)} {ap cp : Pos} (ho : JE X o mo) (ha : JA X [e] false_or_by_contra) (hb : attributeBase o "count" X.env (eval o X.env) = eval o X.env := by rfl)
    (hf : ((backTo cp (starEach [e] X.env)).all (fun x => !x.1) && (backToKw cp (keywordEach [] X.env)).all (fun x => x.1.isSome) && decide ([e].length + ([] : List Keyword).length + (if ([] : List Keyword).isEmpty then 0 else 1) < 30)) = true := by rfl)
    (hl : (ap.endLine == cp.line) = true := by rfl) (hs : starEach [e] X.env = (false, eval e X.env) :: starEach [] X.env := by rfl) (hp : (backTo cp (starEach [] X.env)).any (·.1) = false := by rfl) : JE X (.Call (.Attribute o "count" ap) [e] [] cp) (mCntB mo false_or_by_contra) :=
  ⟨fun Wx tk => pe_imp (pe_bm PySem.F.plainAttrs_list PySem.F.slot_list_count PySem.F.type_list_count mt_cntB (ho.pe Wx tk) (ha.pa Wx tk) hb hf hl hs hp) fun σ H Q ⟨W, ρ, Qm, Xm, eH, rs, re, xr, k, q⟩ => by
    refine ⟨W, ρ, _, Xm, eH, rs, re, xr, fun W1 v d l1 rs1 r1 m1 => ?_, q⟩
    cases d with
    | lst ds =>
      obtain ⟨bs, eb, m1⟩ := m1
      have r1' := r1
      cases r1 with
      | lst h1 h2 h3 =>
        refine ⟨.inl ⟨rfl, _, .inl (.inl h1)⟩, W1, ρ, _, Xm, rfl, rs1, re.mono l1, xr.mono l1, fun W2 us es l2 rs2 r2 m2 => ?_, m1⟩
        cases r1'.mono l2 with
        | lst h4 h5 h6 =>
          split at m2
          · rename_i kk
            cases r2 with
            | cons r3 r4 =>
              cases r3
              cases r4
              refine ⟨_, bs, kk, rfl, rfl, .inl (.inl ?_), k W2 _ _ (l1.trans l2) rs2 (.int _) m2⟩
              rw [← bls_of eb h6]
              exact h4
          · exact m2.elim
    | _ => exact m1.elim⟩
theorem cntB_at {ρ : Env} {S : Store} {Q : D → Store → Prop} {X : XC} {false_or_by_contra : Mr (List D)} {mo : Mr D} (h : mo ρ S (fun o S1 => match o with
  | .lst ds => ∃ bs, bls ds = some bs ∧ false_or_by_contra ρ S1 (fun es S2 => match es with
    | [.bl k] => Q (.int ((bs.count k : Nat) : Int)) S2
    | _ => False) X
  | _ => False) X) : mCntB mo false_or_by_contra ρ S Q X := h
end Mir
end

section
set_option Elab.async false
set_option linter.all false
set_option maxRecDepth 100000
set_option maxHeartbeats 1001000
/-! sorted(set(xs)), xs a list of tuples of ints of any lengths. -/
namespace Mir
open PySem PySem.Spec L2 PyProof.Rows PySem.W PySem.Builtin
/-- a tuple of ints, as data -/
def tupI (k : List Int) : D := .tup (k.map D.int)
def pI (q : Addr × List Int) : PyData := .tuple (q.2.map .int)
section
variable {P : Program} {w : World} {A : Around}
    {E : Value → Shared → Prop} {s : Shared}
theorem each_refs : ∀ L1 : List (Addr × List Int), EachIs (fun (v : Value) (q : Addr × List Int) => v = Value.ref q.1) (L1.map fun q => Value.ref q.1) L1
  | [] => .nil
  | _ :: r => .cons rfl (each_refs r)
theorem refs_each {us : List Value} {L1 : List (Addr × List Int)} (h : EachIs (fun (v : Value) (q : Addr × List Int) => v = Value.ref q.1) us L1) : us = L1.map fun q => Value.ref q.1 := by
  induction h with
  | nil => rfl
  | cons r _ ih => rw [r, ih]; rfl
theorem each_of {R : Value → Addr × List Int → Prop} : ∀ L1 : List (Addr × List Int), (∀ q ∈ L1, R (Value.ref q.1) q) → EachIs R (L1.map fun q => Value.ref q.1) L1
  | [], _ => .nil
  | q :: r, h => .cons (h q List.mem_cons_self) (each_of r fun x hx => h x (List.mem_cons_of_mem _ hx))
theorem sortable_tups {L1 : List (Addr × List Int)} (h : ∀ q ∈ L1, q.2 ≠ []) : Sortable (L1.map pI) ∧ AllAlike (L1.map pI) := by
  refine ⟨.inl fun d hd => ?_, AllAlike.of fun a b => ?_⟩
  · obtain ⟨q, hq, rfl⟩ := List.mem_map.mp hd
    unfold pI
    cases e : q.2 with
    | nil => exact absurd e (h q hq)
    | cons x r => exact ⟨_, _, rfl⟩
  · unfold pI
    rw [alike]
    exact alike_ints _ _
theorem le_pI (a b : Addr × List Int) : dataLe false pI a b = decide (a.2 ≤ b.2) := by
  show (!dataLt (pI b) (pI a)) = _
  unfold pI
  rw [dataLt_tuple]
  show (!rowLt (b.2.map .int) (a.2.map .int)) = _
  rw [dataLt_ints]
  by_cases h : b.2 < a.2
  · have h' : ¬ a.2 ≤ b.2 := fun r => List.not_lt.mpr r h
    simp [h, h']
  · have h' : a.2 ≤ b.2 := List.not_lt.mp h
    simp [h, h']
theorem sorted_pI (L1 : List (Addr × List Int)) : (L1.mergeSort (dataLe false pI)).Pairwise fun q r => q.2 ≤ r.2 := by
  have z := List.pairwise_mergeSort (le := dataLe false pI) (fun a b c h1 h2 => by
    rw [le_pI, decide_eq_true_eq] at h1 h2 ⊢
    exact List.le_trans h1 h2) (fun a b => by
    rw [le_pI, le_pI, Bool.or_eq_true, decide_eq_true_eq, decide_eq_true_eq]
    exact List.le_total _ _) L1
  exact z.imp fun h => by rw [le_pI, decide_eq_true_eq] at h; exact h
/-- a shuffled map is a map of the shuffled -/
theorem rows_back {α β : Type} {f : α → β} {L : List α} {vs : List β} (pm : vs.Perm (L.map f)) : ∃ L1 : List α, vs = L1.map f ∧ L1.Perm L := by
  generalize hm : L.map f = false_or_by_contra at pm
  induction pm generalizing L with
  | nil =>
    cases L with
    | nil => exact ⟨[], rfl, .nil⟩
    | cons x r => cases hm
  | @cons x l1 l2 _ ih =>
    cases L with
    | nil => cases hm
    | cons y r =>
      injection hm with h1 h2
      obtain ⟨L1, e, p⟩ := ih h2
      exact ⟨y :: L1, by rw [List.map_cons, h1, e], .cons y p⟩
  | swap x y l =>
    match L, hm with
    | a :: b :: r, hm =>
      injection hm with h1 h2
      injection h2 with h2 h3
      exact ⟨b :: a :: r, by rw [List.map_cons, List.map_cons, h1, h2, h3], .swap _ _ _⟩
  | trans _ _ ih1 ih2 =>
    obtain ⟨L1, e1, p1⟩ := ih2 hm
    obtain ⟨L2, e2, p2⟩ := ih1 e1.symm
    exact ⟨L2, e2, p2.trans p1⟩
theorem sorted_setD {a : Addr} {L : List (Addr × List Int)} {es : Array (Int × Value)} {ep : Nat} {t : SetTable} {Q : Value → Shared → Prop} (R : SetTR P w s.heap a L es ep t) (hh : A.handled = none) (hu : A.units + 64 < cLine) (hne : ∀ p ∈ L, p.2 ≠ [])
    (hQ : ∀ s' p (out : Array Value) (c : Nat) (L' : List (Addr × List Int)), (∀ b o,
        s.heap.get? b = some o → s'.heap.get? b = some o) → s'.gens = s.gens → s'.os = s.os → s.heap.objs.size ≤ p →
      s'.heap.get? p = some (seqObj "list" out c) → out.toList = L'.map (fun q => Value.ref q.1) → L'.Perm L → L'.Pairwise (fun q r => q.2 ≤ r.2) → Q (.ref p) s') :
    wpAny (model P w) A (call (.builtin "sorted")
        [.ref a]) Q E s := by
  obtain ⟨o, ho, hex, hd⟩ :=
      R.ob
  have few := R.few
  have sz := R.size
  refine Calls.call_function_entry kind_sorted
      plain_sorted entry_sorted (args_sorted1 _) ?_
  unfold Builtin.«sorted»
  refine wpAny_bind (m :=
      checkCount "sorted" 1 1 _) (wpAny_pure ?_)
  refine wpAny_bind (collect_set (A := A.in1) hh ⟨o, ho, hex.1, hd⟩ R.fits (by (unfold scanBound; omega)) R.tab.ris R.led fun s1 vs k1 hz g1 o1 pm => ?_)
  have rows : es.toList.map (·.2) = L.map fun q => Value.ref q.1 := by
    rw [R.rows]
    unfold L2.rowsOf
    rw [List.map_map]
    rfl
  rw [rows] at pm
  obtain ⟨L1, e1, p1⟩ := rows_back pm
  have lv : vs.length < 64 := by rw [pm.length_eq, List.length_map]; exact few
  refine wpAny_bind (wpAny_newList ?_ (by (rw [sizeLine_eq]; omega)))
  have at1 : (s1.heap.push (seqObj "list" vs.toArray 0)).get? s1.heap.objs.size = some (seqObj "list" vs.toArray 0) := Heap.get?_push_size _ rfl
  have rd : ∀ q ∈ L1, Reads (s1.heap.push (seqObj "list" vs.toArray 0)) (.ref q.1) (pI q) [] := fun q hq => by
    obtain ⟨b, items, eb, it, hi⟩ := tupInts_of (P := P) (w := w) (isT_keep (R.tup q (p1.mem_iff.mp hq)) fun b u e => Heap.get?_push_of_some (seqObj "list" vs.toArray 0) (k1 b u e))
    cases eb
    exact reads_tuple_ints it hi
  obtain ⟨sb, al⟩ := sortable_tups fun q hq => hne q (p1.mem_iff.mp hq)
  subst e1
  have l1 : L1.length < 64 := by rw [List.length_map] at lv; exact lv
  refine wpAny_bind (wpAny_holding (list_sort_data (s := { s1 with heap := s1.heap.push (seqObj "list" (L1.map fun q => Value.ref q.1).toArray 0) }) (enc := pI) at1 (each_refs L1)
    (each_of L1 fun q hq => ⟨[], rd q hq, List.not_mem_nil⟩) al sb (by rw [sizeLine_eq]; omega) (fun q hq => ?_) fun out lo eo => ?_))
  · show A.units + 1 + 1 + (pI q).depth < cLine
    unfold pI
    rw [PyData.depth, depth_ints]
    omega
  · have eo := refs_each eo
    obtain ⟨c, hc⟩ := sortedHeap_at (vs := L1.map fun q => Value.ref q.1) (out := out.toArray) at1
    refine wpAny_pure ⟨_, rfl, hQ _ s1.heap.objs.size out.toArray c _ (fun b u e => ?_) g1 o1 hz hc eo ((List.mergeSort_perm L1 _).trans p1) ?_⟩
    · have q := k1 b u e
      have lt := Heap.lt_size q
      show (sortedHeap (s1.heap.push (seqObj "list" (L1.map fun q => Value.ref q.1).toArray 0)) s1.heap.objs.size _ _).get? b = some u
      rw [sortedHeap_old (Nat.ne_of_lt lt) (by rw [size_push']; exact Nat.lt_succ_of_lt lt)]
      exact Heap.get?_push_of_some
          _ q
    · exact sorted_pI L1
end
section
variable {X : Cx}
/-- sorted(s), s a set of tuples of ints -/
def rSortSet (K : PySem.W.Frag) (P : Program) (w : World) : List V → Hp → VK → Prop := fun vs H Q => ∃ (a : Addr) (L : List (Addr × List Int)), vs = [V.ref a] ∧ H a = some (SetTO P w a L) ∧ (∀ p ∈ L, SqT K H p.1 (p.2.map V.int)) ∧ (∀ p ∈ L, p.2 ≠ []) ∧
  ∀ (L' : List (Addr × List Int)) (p : Addr), L'.Perm L → (L'.map (·.2)).Nodup → L'.length < 64 → L'.Pairwise (fun q r => q.2 ≤ r.2) → H p = none → Q (.ref p) (upd H p (.lst (L'.map fun q => V.ref q.1)))
theorem cr_sortSet (hc : X.calm = true) (hu : X.A.units + 64 < cLine) : CallR X (.builtin "sorted") (rSortSet X.K X.prog X.w) := by
  rintro pins s σ H vs us Q I r ⟨a, L, rfl, ha, hk, hne, q⟩
  obtain ⟨es, ep, t, R⟩ := ((I.hok a _ ha).1 : SetT0 X.prog X.w s.heap a L).full fun p hp => I.isT (hk p hp)
  rw [Vals.ref1 r]
  refine sorted_setD R (I.ok.hd hc) hu hne fun s' p out c L' k g o hp hg hout pm pw => ?_
  have few : L'.length < 64 := by rw [pm.length_eq]; exact R.few
  have hn : H p = none :=
      I.hok.fresh hp
  have hv : Vals (L'.map fun q => V.ref q.1) out.toList :=
      by rw [hout]; exact vals_of_refs L'
  have J : Inv X pins σ (upd H p (.lst (L'.map fun q => V.ref q.1))) { s with toks := s'.toks, gens := s'.gens, drawn := s'.drawn, heap := s'.heap } :=
    I.call (ch := []) (Un.laid k hp hn) (I.hok.laid k hp ⟨by rw [List.length_map, sizeLine_eq]; omega, out.toList, c, hv, hg⟩) (by rw [g]; exact I.bare) (fun _ z => nomatch z)
  have es : s' = { s with toks := s'.toks, gens := s'.gens, drawn := s'.drawn, heap := s'.heap } := by
    obtain ⟨h1, h2, h3, h4, h5⟩ := s'
    obtain ⟨g1, g2, g3, g4, g5⟩ := s
    have o : h5 = g5 := o
    subst o
    rfl
  rw [es]
  exact ⟨.ref p, _, J, rfl, q L' p pm ((pm.map (·.2)).nodup_iff.mpr R.nd) few pw hn⟩
theorem tups_of {K : PySem.W.Frag} {W : Wd} : ∀ {ks : List (List Int)} {vs : List V}, RDs W vs (ks.map tupI) → ∃ zs : List (Addr × List Int), vs = zs.map (fun p => V.ref p.1) ∧ zs.map (·.2) = ks ∧ ∀ p ∈ zs, RD W (.ref p.1) (tupI p.2)
  | [], _, .nil => ⟨[], rfl, rfl, fun _ h => nomatch h⟩
  | k :: ks, _, .cons a r => by
    obtain ⟨zs, e1, e2, h⟩ := tups_of (K := K) r
    obtain ⟨b, us, rfl, h1, h2⟩ := tup_of (K := K) a
    refine ⟨(b, k) :: zs, by rw [List.map_cons, e1], by rw [List.map_cons, e2], fun p hp => ?_⟩
    rcases List.mem_cons.mp
        hp with rfl | hp
    · exact a
    · exact h p hp
theorem sqT_ints {K : PySem.W.Frag} {W : Wd} {a : Addr} {k : List Int} (h : RD W (.ref a) (tupI k)) : SqT K W.H a (k.map V.int) := by
  obtain ⟨b, us, e, h1, h2⟩ := tup_of (K := K) h
  cases e
  rw [RDs.of_ints h2] at h1
  exact h1
def mSortSet (m : Mr D) : Mr D := fun ρ S Q X => m ρ S (fun d S1 => ∃ ks : List (List Int), asL S1 d = some (ks.map tupI) ∧ ks.length < 64 ∧ (∀ k ∈ ks, k ≠ []) ∧ ∀ Ls : List (List Int), Ls.Nodup → (∀ k, k ∈ Ls ↔ k ∈ ks) → Ls.Pairwise (fun a b => a ≤ b) → Q (.lst (Ls.map tupI)) S1) X
theorem rds_refs {W : Wd} : ∀ {L : List (Addr × List Int)}, (∀ p ∈ L, RD W (.ref p.1) (tupI p.2)) → RDs W (L.map fun q => V.ref q.1) ((L.map (·.2)).map tupI)
  | [], _ => .nil
  | p :: L, h => .cons (h p List.mem_cons_self) (rds_refs fun q hq => h q (List.mem_cons_of_mem _ hq))
theorem je_sortSet {a : Expr} {ma : Mr D} {p p2 q pos : Pos} (hu : X.A.units + 64 < cLine) (hc : X.calm = true) (hm : X.mg "sorted" = none) (hm2 : X.mg "set" = none) (ha : JE X a ma) (hg : Gl X "sorted" := by rfl) (hg2 : Gl X "set" := by rfl)
    (he : starEach [.Call (.Name "set" p2) [a] [] q] X.env = (false, eval (.Call (.Name "set" p2) [a] [] q) X.env) :: starEach [] X.env := by rfl) (he2 : starEach [a] X.env = (false, eval a X.env) :: starEach [] X.env := by rfl) (hpl : (backTo pos (starEach [] X.env)).any (·.1) = false := by rfl) (hpl2 : (backTo q (starEach [] X.env)).any (·.1) = false := by rfl) :
    JE X (.Call (.Name "sorted" p) [.Call (.Name "set" p2) [a] [] q] [] pos) (mSortSet ma) :=
  ⟨fun Wx tk => pe_imp (pe_callB (cr_sortSet hc hu) hg hm (by decide +kernel) (pa_cons (pe_callTy (cr_setOfT hc hu) hg2 hm2 (by decide +kernel) (pa_cons (ha.pe Wx tk) pa_nil he2) (by decide) (by decide) he2 hpl2) pa_nil he) (by decide) (by decide) he hpl) fun σ H Q ⟨W, ρ, Qm, Xm, eH, rs, re, xr, k, m⟩ => by
    refine ⟨W, ρ, _, Xm, eH, rs, re, xr, fun W1 v d l1 rs1 r1 m1 => ?_, m⟩
    obtain ⟨ks, ek, lk, ne, m1⟩ := m1
    obtain ⟨b, vs, rfl, hs, hr⟩ := asL_of (K := X.K) rs1 r1 ek
    obtain ⟨zs, e1, e2, hz⟩ := tups_of (K := X.K) hr
    subst e1 e2
    refine ⟨b, zs, rfl, hs, fun p hp => sqT_ints (hz p hp), by rw [List.length_map] at lk; exact lk, fun c L hn hL hL2 => ?_⟩
    have rs2 := rs1.add (u := SetTO X.prog X.w c L) hn
    have l2 : Le W1 (W1.add c (SetTO X.prog X.w c L)) := Le.add rs1 hn
    refine ⟨c, L, rfl, upd_same, fun p hp => sqT_ints ((hz p (hL p hp)).mono l2), fun p hp => ne _ (List.mem_map_of_mem (hL p hp)), fun L' p pm nd few pw hp => ?_⟩
    refine ((k.mono l1).mono l2).lst rs2 (rds_refs fun y hy => (hz y (hL y (pm.mem_iff.mp hy))).mono l2) (m1 _ nd (fun y => ⟨fun hy => ?_, fun hy => ?_⟩) (List.pairwise_map.mpr pw)) p hp
    · obtain ⟨z, hz, rfl⟩ := List.mem_map.mp hy
      exact List.mem_map_of_mem (hL z (pm.mem_iff.mp hz))
    · obtain ⟨z, hz, rfl⟩ := List.mem_map.mp hy
      exact (pm.map (·.2)).mem_iff.mpr (hL2 z hz)⟩
theorem sortSet_at {ρ : Env} {S : Store} {Q : D → Store → Prop} {X : XC} {m : Mr D} (h : m ρ S (fun d S1 => ∃ ks : List (List Int), asL S1 d = some (ks.map tupI) ∧ ks.length < 64 ∧ (∀ k ∈ ks, k ≠ []) ∧ ∀ Ls : List (List Int), Ls.Nodup → (∀ k, k ∈ Ls ↔ k ∈ ks) → Ls.Pairwise (fun a b => a ≤ b) → Q (.lst (Ls.map tupI)) S1) X) : mSortSet m ρ S Q X := h
end
end Mir
end

section
set_option Elab.async false
set_option linter.all false
set_option maxRecDepth 100000
set_option maxHeartbeats 1001000
/-! // by divisors of any size. -/
namespace Mir
open PySem L2
abbrev fDivW : F2 := fInt CDivW fun i j => i / j
theorem divW_ii {i j : Int} {S : Store} {k : D → Prop} (h0 : 0 < j) (h1 : j < 1073741824 * 1073741824) (h : k (.int (i / j))) : fDivW (.int i) (.int j) S k :=
  ⟨wide_div (b := 60) h0 (show j.natAbs < 1152921504606846976 by omega) (by decide) (by decide), h⟩
end Mir
end

section
set_option Elab.async false
set_option linter.all false
set_option maxRecDepth 100000
set_option maxHeartbeats 1001000
/-! ==, != of plain data, any texts within. -/
namespace Mir
open PySem L2
def rEqP (n : Bool) (K : PySem.W.Frag) : R2 := fun x y H Q => ∃ p q, Dp K H x p ∧ Dp K H y q ∧ p.plain = true ∧ q.plain = true ∧ p.depth ≤ 60 ∧ Q (.bl (n ^^ PyData.eqv p q)) H
theorem op_neP {X : Cx} (hu : X.A.units + 64 < cLine) : OpR X (compareOp .NotEq) (rEqP true X.K) := by
  rintro pins s σ H x y xv yv Q I rx ry ⟨p, q, d1, d2, h1, h2, h3, k⟩
  obtain ⟨as, r1⟩ := Dp.reads I p x xv d1 rx
  obtain ⟨bs, r2⟩ := Dp.reads I q y yv d2 ry
  refine SeqAt.ne_plain r1 r2 h1 h2 (by omega) ⟨.bl _, H, I, rfl, ?_⟩
  rw [Bool.true_xor] at k
  exact k
theorem op_eqP {X : Cx} (hu : X.A.units + 64 < cLine) : OpR X (compareOp .Eq) (rEqP false X.K) := by
  rintro pins s σ H x y xv yv Q I rx ry ⟨p, q, d1, d2, h1, h2, h3, k⟩
  obtain ⟨as, r1⟩ := Dp.reads I p x xv d1 rx
  obtain ⟨bs, r2⟩ := Dp.reads I q y yv d2 ry
  refine SeqAt.eq_plain r1 r2 h1 h2 (by omega) ⟨.bl _, H, I, rfl, ?_⟩
  rw [Bool.false_xor] at k
  exact k
def fEqPB (n : Bool) : F2 := fun a b S k => ∃ p q, pyS S a = some p ∧ pyS S b = some q ∧ p.plain = true ∧ q.plain = true ∧ p.depth ≤ 60 ∧ k (.bl (n ^^ PyData.eqv p q))
abbrev fNeP : F2 := fEqPB true
abbrev fEqP : F2 := fEqPB false
theorem snd_eqP {n : Bool} {K : PySem.W.Frag} : Snd2 K (fEqPB n) (rEqP n K) := by
  rintro W x y a b Q Qm rs ra rb k ⟨p, q, e1, e2, h1, h2, h3, m⟩
  exact ⟨p, q, RD.dpS rs ra e1, RD.dpS rs rb e2, h1, h2, h3, k W _ _ (Le.refl W) rs (.bl _) m⟩
/-- the same twice -/
theorem neP_same {S : Store} {a : D} {p : PyData} {k : D → Prop} (e : pyS S a = some p) (h1 : p.plain = true) (h2 : p.depth ≤ 60) (h : k (.bl false)) : fNeP a a S k := by
  refine ⟨p, p, e, e, h1, h1, h2, ?_⟩
  rw [SeqAt.eqv_refl_plain p h1]
  exact h
theorem eqP_same {S : Store} {a : D} {p : PyData} {k : D → Prop} (e : pyS S a = some p) (h1 : p.plain = true) (h2 : p.depth ≤ 60) (h : k (.bl true)) : fEqP a a S k := by
  refine ⟨p, p, e, e, h1, h1, h2, ?_⟩
  rw [SeqAt.eqv_refl_plain p h1]
  exact h
theorem pys_strs : ∀ ws : List Str, pys (ws.map D.str) = some (ws.map PyData.str)
  | [] => rfl
  | w :: ws => by
    rw [List.map_cons, pys, pys_strs ws]
    rfl
theorem plain_strs : ∀ ws : List Str, PyData.plainAll (ws.map PyData.str) = true
  | [] => rfl
  | w :: ws => by
    rw [List.map_cons, PyData.plainAll, plain_strs ws]
    rfl
theorem depth_strs : ∀ ws : List Str, PyData.depthAll (ws.map PyData.str) = 0
  | [] =>
      by simp [PyData.depthAll]
  | w :: ws => by
    rw [List.map_cons, PyData.depthAll, depth_strs ws]
    simp [PyData.depth]
/-- a list of texts, twice -/
theorem neP_strs {S : Store} {ws : List Str} {k : D → Prop} (h : k (.bl false)) : fNeP (.lst (ws.map D.str)) (.lst (ws.map D.str)) S k := by
  have e : pyS S (.lst (ws.map D.str)) = some (.list (ws.map PyData.str)) := by
    show py (.lst (ws.map D.str)) = _
    rw [py, pys_strs]
    rfl
  refine neP_same e ?_ ?_ h
  · rw [PyData.plain]
    exact plain_strs ws
  · rw [PyData.depth, depth_strs]
    decide
end Mir
end

section
set_option Elab.async false
set_option linter.all false
set_option maxRecDepth 100000
set_option maxHeartbeats 1001000
/-! sorted((), key = a def); defs with a star and keyword-only parameters that have defaults. -/
namespace Mir
open PySem L2 PyProof.Rows Srt SrtO SrtR
section
variable {P : Program} {w : World} {A : Around}
    {E : Value → Shared → Prop} {s : Shared}
theorem keyed_empty {t f : Addr} {o : Obj} {n : Nat} {Q : Value → Shared → Prop} (ho : s.heap.get? t = some o) (hc : o.cls = .type "tuple") (hd : o.data = .seq #[] n)
    (hQ : ∀ (h' : Heap) (p c : Nat), (∀ b u, s.heap.get? b = some u → h'.get? b = some u) → s.heap.get? p = none → h'.get? p = some (seqObj "list" #[] c) → Q (.ref p) { s with heap := h' }) :
    wpAny (model P w) A (call (.builtin "sorted") [.ref t] [(Str.ofString "key", .ref f)]) Q E s := by
  refine call_function_entry_kw
      kind_sorted plain_sorted entry_sorted (ksk_s1 _ _) ?_
  unfold Builtin.«sorted»
  refine wpAny_bind (m := checkCount "sorted"
      1 1 _) (wpAny_pure ?_)
  refine wpAny_bind (wpAny_collect_seq t (.inr rfl) ho hc hd (fun h1 k1 => ?_))
  refine wpAny_bind (wpAny_newList
      ?_ (Nat.zero_le _))
  have hn : s.heap.get? h1.objs.size = none := by
    cases e : s.heap.get? h1.objs.size with
    | none => rfl
    | some u => exact absurd (Heap.lt_size (k1 _ _ e)) (Nat.lt_irrefl _)
  have hoL : (h1.push (seqObj "list" #[] 0)).get? h1.objs.size = some (seqObj "list" #[] 0) := Heap.get?_push_size _ rfl
  refine wpAny_bind (wpAny_holding (wpAny_call_entry_kw slot_list_sort ⟨_, hoL, rfl⟩
      entry_list_sort ?_ (ksk_l1 _ _)))
  rw [ksk_t1]
  unfold ksk_tree
  refine wpAny_bind (listItems_at hoL
      rfl ?_)
  refine wpAny_bind (listUpdate_at hoL rfl ?_ (Nat.zero_le _) (Nat.zero_le _))
  obtain ⟨e1, ho1⟩ : ∃ e1, ((h1.push (seqObj "list" #[] 0)).update h1.objs.size (Obj.mapSeq fun _ => #[])).get? h1.objs.size = some (seqObj "list" #[] e1) := ⟨_, get?_update_seq hoL (fun _ => #[])⟩
  refine wpAny_bind (seqEpoch_at
      ho1 rfl ?_)
  refine wpAny_bind (wpAny_newTuple ?_ (Nat.zero_le _))
  refine wpAny_bind (wpAny_newList
      ?_ (Nat.zero_le _))
  refine wpAny_holding ?_
  unfold ksk_rest
  refine wpAny_bind
      (wpAny_rule ?_)
  have KP : ∀ b u, s.heap.get? b = some u → ((((h1.push (seqObj "list" #[] 0)).update h1.objs.size (Obj.mapSeq fun _ => #[])).push (seqObj "tuple" #[] 0)).push (seqObj "list" #[] 0)).get? b = some u := fun b u e =>
    Heap.get?_push_of_some _ (Heap.get?_push_of_some _ ((Heap.get?_update_ne _ _ _ _ (fun q => by rw [q, hn] at e; cases e)).trans (Heap.get?_push_of_some _ (k1 b u e))))
  have KA : ((((h1.push (seqObj "list" #[] 0)).update h1.objs.size (Obj.mapSeq fun _ => #[])).push (seqObj "tuple" #[] 0)).push (seqObj "list" #[] 0)).get? h1.objs.size = some (seqObj "list" #[] e1) :=
    Heap.get?_push_of_some _
        (Heap.get?_push_of_some _ ho1)
  have KS : ((((h1.push (seqObj "list" #[] 0)).update h1.objs.size (Obj.mapSeq fun _ => #[])).push (seqObj "tuple" #[] 0)).push (seqObj "list" #[] 0)).get? (((h1.push (seqObj "list" #[] 0)).update h1.objs.size (Obj.mapSeq fun _ => #[])).push (seqObj "tuple" #[] 0)).objs.size = some (seqObj "list" #[] 0) :=
    Heap.get?_push_size _ rfl
  show wpAny (model P w) _ _ _ E { s with heap := (((h1.push (seqObj "list" #[] 0)).update h1.objs.size (Obj.mapSeq fun _ => #[])).push (seqObj "tuple" #[] 0)).push (seqObj "list" #[] 0) }
  have hne : h1.objs.size ≠ (((h1.push (seqObj "list" #[] 0)).update h1.objs.size (Obj.mapSeq fun _ => #[])).push (seqObj "tuple" #[] 0)).objs.size := by
    rw [size_push', Heap.size_update, size_push']
    omega
  show wpAny (model P w) _ (_ >>= _) _ E { s with heap := (((h1.push (seqObj "list" #[] 0)).update h1.objs.size (Obj.mapSeq fun _ => #[])).push (seqObj "tuple" #[] 0)).push (seqObj "list" #[] 0) }
  generalize e3 : (((h1.push (seqObj "list" #[] 0)).update h1.objs.size (Obj.mapSeq fun _ => #[])).push (seqObj "tuple" #[] 0)).push (seqObj "list" #[] 0) = h3 at *
  generalize e4 : (((h1.push (seqObj "list" #[] 0)).update h1.objs.size (Obj.mapSeq fun _ => #[])).push (seqObj "tuple" #[] 0)).objs.size = ks at *
  refine wpAny_bind ?_
  show wpAny _ _ (pure _) _ _ _
  refine wpAny_pure ?_
  refine wpAny_bind (listItems_at
      KS rfl ?_)
  unfold ksk_end
  rw [if_neg (fun e => by cases e)]
  rw [if_pos (show (#[] : Array Value).size < 2 by decide), if_pos (show (#[] : Array Value).size < 2 by decide)]
  refine wpAny_bind
      (wpAny_pure ?_)
  dsimp only
  rw [StateT.run_pure]
  refine wpAny_bind
      (wpAny_pure ?_)
  rw [if_neg (fun e => by cases e)]
  have zE : (#[] : Array Value).zip (#[] : Array Value) = #[] := by simp
  rw [zE]
  dsimp only
  unfold ksk_tail
  have aE : arrOf (SortSt.mk' general' #[] #[] 7 none) = #[] := rfl
  have fE : failedOf (SortSt.mk' general' #[] #[] 7 none) = none := rfl
  rw [aE, fE]
  refine wpAny_bind (listUpdate_at KS rfl ?_ (Nat.zero_le _) (Nat.zero_le _))
  refine wpAny_bind
      (wpAny_letGo ?_)
  have KA2 : (h3.update ks (Obj.mapSeq fun _ => #[])).get? h1.objs.size = some (seqObj "list" #[] e1) := (Heap.get?_update_ne _ _ _ _ hne).trans KA
  refine wpAny_bind (seqEpoch_at
      KA2 rfl ?_)
  have sE : (if false = true then ((#[] : Array Keyed).map (·.2)).reverse else (#[] : Array Keyed).map (·.2)) = (#[] : Array Value) := by simp
  dsimp only
  rw [sE]
  refine wpAny_bind (listUpdate_at KA2 rfl ?_ (Nat.zero_le _) (Nat.zero_le _))
  have KF := get?_update_seq KA2 (fun _ => #[])
  rw [bne_self_eq_false, if_neg (fun e => by cases e)]
  refine wpAny_pure ⟨_, rfl, wpAny_pure ⟨_, rfl, hQ _ _ _ (fun b u e => ?_) hn KF⟩⟩
  have n1 : b ≠ h1.objs.size := fun q => by rw [q, hn] at e; cases e
  have n2 : b ≠ ks := fun q => by
    have l1 := Heap.lt_size (k1 b u e)
    have hk : h1.objs.size + 1 + 1 = ks := by rw [← e4, size_push', Heap.size_update, size_push']
    have l2 : ks < h1.objs.size := q ▸ l1
    omega
  rw [Heap.get?_update_ne _ _ _ _ n1, Heap.get?_update_ne _ _ _ _ n2]
  exact KP b u e
end
section
variable {X : Cx} {P : Program} {w : World} {K : PySem.W.Frag} {mg : Str → Option Value} {base : Heap}
def rKeyed0 (K : PySem.W.Frag) : List V → List V → Hp → VK → Prop := fun vs zs H Q => ∃ t f : Addr, vs = [V.ref t] ∧ zs = [V.ref f] ∧ SqT K H t [] ∧ ∀ p, H p = none → Q (.ref p) (upd H p (.lst []))
theorem cr_keyed0 : CallRK X (.builtin "sorted") [Str.ofString "key"] (rKeyed0 X.K) := by
  rintro pins s σ H vs zs us ws Q I r rz ⟨t, f, rfl, rfl, ht, q⟩
  rw [Vals.ref1 r, Vals.ref1 rz]
  obtain ⟨its, rv, ⟨o, ho, hc, n, hd⟩, _⟩ := I.tuple ht
  cases rv
  refine keyed_empty ho hc hd fun h' p c k hn hp => ?_
  have fr := I.hok.gone hn
  have nw : ObjOk X.prog X.w (upd H p (.lst [])) h' p (.lst []) := ⟨Nat.zero_le _, [], c, .nil, hp⟩
  exact ⟨.ref p, _, I.laidN (t' := s.toks) k hn fr nw, rfl, q p fr⟩
def fKeyed0 : FA := fun ds S k => ds = [.tup []] ∧ k (.lst [])
theorem snd_keyed0 {f : Addr} : SndA K fKeyed0 (fun vs H Q => rKeyed0 K vs [V.ref f] H Q) := by
  rintro W xs ds Q Qm rs r k ⟨rfl, m⟩
  cases r with
  | cons r1 r2 =>
    cases r2
    cases r1 with
    | tup h1 h2 h3 =>
      cases h3
      exact ⟨_, f, rfl, rfl, .inl (.inl h1), fun p hn => k.lst rs .nil m p hn⟩
theorem je_keyed0 {e : Expr} {me : Mr D} {x : Str} {p fp kp pos : Pos} {f : Addr} (ha : JE X e me) (hm : X.mg "sorted" = none) (hmf : X.mg x = some (.ref f)) (hg : Gl X "sorted" := by rfl) (hgf : Gl X x := by rfl) (hdx : (x == ("__debug__" : Str)) = false := by decide)
    (he : backTo pos (starEach [e] X.env) = (false, eval e X.env) :: backTo pos (starEach [] X.env) := by rfl) (hpl : (backTo pos (starEach [e] X.env)).any (·.1) = false := by rfl)
    (he1 : starEach [e] X.env = (false, eval e X.env) :: starEach [] X.env := by rfl)
    (hall : (backToKw pos (keywordEach [⟨some "key", .Name x fp, kp⟩] X.env)).all (·.1.isSome) = true := by rfl)
    (hnone : (backToKw pos (keywordEach [⟨some "key", .Name x fp, kp⟩] X.env)).any (·.1.isNone) = false := by rfl)
    (hks : (backToKw pos (keywordEach [⟨some "key", .Name x fp, kp⟩] X.env)).filterMap (·.1) = [Str.ofString "key"] := by rfl) :
    JE X (.Call (.Name "sorted" p) [e] [⟨some "key", .Name x fp, kp⟩] pos) (mApp fKeyed0 (mCons me mNil)) :=
  ⟨fun Wx tk => pe_imp (pe_callBK cr_keyed0 hg hm (by decide +kernel) ((ja_cons ha ja_nil he1).pa Wx tk) (pk_cons (pe_glob hgf hmf (v := V.ref f) rfl hdx) pk_nil) (by decide) (by decide) he hpl hall hnone hks) fun σ H Q ⟨W, ρ, Qm, Xm, eH, rs, re, xr, k, m⟩ =>
    ⟨W, ρ, _, Xm, eH, rs, re, xr, fun W1 xs ds l1 rs1 r1 m1 => snd_keyed0 W1 xs ds Q Qm rs1 r1 (k.mono l1) m1, m⟩⟩
theorem keyed0_at {S : Store} {k : D → Prop} (h : k (.lst [])) : fKeyed0 [.tup []] S k := ⟨rfl, h⟩
/-- t looks names up in the dict at D, one behind another, and goes on as r -/
def LookUps {α : Type} (D : Addr) : List (Str × Value) → Sem α → Sem α → Prop
  | [], t, r => t = r
  | q :: l, t, r => ∃ (β γ : Type) (k1 : Option Value → Sem β) (k2 : β → Sem γ) (k3 : γ → Sem α) (a : β), t = ((nsGet D q.1 >>= k1) >>= k2) >>= k3 ∧ k1 (some q.2) = pure a ∧ LookUps D l (k2 a >>= k3) r
theorem LookUps.run {α : Type} {D : Addr} {A : Around} {Ex : Value → Shared → Prop} {Q : α → Shared → Prop} {s : Shared} (KI : K.In s.heap) : ∀ {l : List (Str × Value)} {t r : Sem α}, (∀ q ∈ l, PySem.W.nsIn K D q.1 = some (some q.2)) → LookUps D l t r → wpAny (model P w) A r Q Ex s → wpAny (model P w) A t Q Ex s
  | [], t, r, _, e, h => by
    have e : t = r := e
    rw [e]
    exact h
  | q :: l, t, r, hl, ⟨β, γ, k1, k2, k3, a, e1, e2, e3⟩, h => by
    rw [e1, bind_assoc, bind_assoc]
    have l1 : PySem.W.Looks (model P w) s.heap (nsGet D q.1) (some q.2) := PySem.W.looks_nsIn KI (hl q (List.mem_cons_self ..))
    refine wpAny_bind (l1.here ?_)
    rw [e2, pure_bind]
    exact LookUps.run KI (fun p hp => hl p (List.mem_cons_of_mem _ hp)) e3 h
/-- a def with keyword-only parameters whose defaults are integers -/
structure FunW (K : PySem.W.Frag) (x : Str) (st : Stmt) (f : Addr) (ks : List Str) (is : List Int) : Prop where
  ex : ∃ (oc : Value) (od : Option Addr) (D : Addr) (doc pm : Value) (an : Option Addr) (cdv ct : Value) (osl : Array (Option Value)) (ws : List Value),
    K.lookup f = some ⟨oc, od, .func (PySem.W.fnOf x x (defArgs st) (defBody st) (defScope st) .none (.ref D) doc pm an cdv ct), osl⟩ ∧ PySem.W.codeIn K cdv x = true ∧ Vals (is.map V.int) ws ∧ ws.length = ks.length ∧ ∀ q ∈ ks.zip ws, PySem.W.nsIn K D q.1 = some (some q.2)
def mStarD (n : Nat) (is : List Int) (F : MF) : MF := fun ds S Q X => small ds.length ∧ F (ds.take n ++ is.map D.int ++ [.tup (ds.drop n)]) S Q X
theorem fnGSD {x : Str} {st : Stmt} {f : Addr} {N ps ks : List Str} {is : List Int} {pv : Str} {k n m c : Nat} {mb : MS} (F : FunW K x st f ks is) (S : FnScope N (ps ++ ks ++ [pv]) (defScope st)) (hn : ps.length = n) (hm : n ≤ m) (hk : is.length = ks.length) (hc : N.length = n + ks.length + 1 + c)
    (hb : ∀ (D : Addr) (doc pm : Value) (an : Option Addr) (cdv ct : Value) (us ws rest : List Value), us.length = ps.length → ws.length = ks.length →
      LookUps D (ks.zip ws) (bindArgs (PySem.W.fnOf x x (defArgs st) (defBody st) (defScope st) .none (.ref D) doc pm an cdv ct) ⟨us ++ rest, []⟩) (newTuple rest >>= fun t => pure ((ps ++ ks).zip (us ++ ws) ++ [(pv, t)])))
    (B : BodyOk P w K mg base N x st f k mb) : FnG P w K mg base (k + 1) f m [] (mStarD n is (mFn (n + ks.length + 1) c mb)) := by
  obtain ⟨oc, od, D, doc, pm, an, cdv, ct, osl, ws, lk, hcd, hv, hw, hq⟩ := F.ex
  rintro A outer s H us vs Q E hg hr e0 rv hl ⟨W, ds, Qm, Xm, rfl, rs, rd, kq, kx, hz, mm⟩
  have hl' : us.length = m := by simpa using hl
  rw [List.take_of_length_le (Nat.le_of_eq hl'), List.zip_nil_left]
  have hf : W.H s.heap.objs.size = none := e0.hok.fresh (Nat.le_refl _)
  have hv2 : vs.length = m := by rw [rv.length, hl']
  have htk : (us.take n).length = ps.length := by rw [List.length_take, hl', hn]; omega
  have hdl : (vs.drop n).length ≤ sizeLine := small_line (by rw [List.length_drop]; have := rd.length; unfold small at *; omega)
  refine StX.run_bnd lk hcd S hr e0 (G := fun xs H2 => ∃ p, W.H p = none ∧ xs = vs.take n ++ is.map V.int ++ [V.ref p] ∧ H2 = upd W.H p (.tup (vs.drop n))) (fun A' Ex Q' h => ?_) fun s2 H2 xs ⟨p, hp, ex, eH⟩ hr' => ?_
  · have e := hb D doc pm an cdv ct (us.take n) ws (us.drop n) htk hw
    rw [List.take_append_drop] at e
    refine LookUps.run (K := K) (e0.mod.kin.keeps fun b o e => (e0.bs b o e).1) hq e ?_
    refine wpAny_bind (wpAny_newTuple (wpAny_pure ?_) (by rw [← (rv.drop n).length]; exact hdl))
    have un := StX.un_laid (fs := frs outer) (s := s) (o := ({ cls := .type "tuple", data := .seq (us.drop n).toArray } : Obj)) (u := .tup (vs.drop n)) hf
    have z := h { s with heap := s.heap.push { cls := .type "tuple", data := .seq (us.drop n).toArray } } (upd W.H s.heap.objs.size (.tup (vs.drop n))) (vs.take n ++ is.map V.int ++ [V.ref s.heap.objs.size]) (us.take n ++ ws ++ [Value.ref s.heap.objs.size])
      (StX.env0_laid e0 ⟨hdl, _, rv.drop n, ⟨_, Heap.get?_push_size _ rfl, rfl, _, rfl⟩⟩) un rfl (fun e s' => StX.cxUp outer s W.H _ _ E e s' un (fun b o q => Heap.get?_push_of_some _ q) rfl) (((rv.take n).append hv).append (.cons rfl .nil))
      (by simp only [List.length_append, List.length_take, List.length_map, hv2, hn, hk, List.length_cons, List.length_nil]; omega) ⟨_, hf, rfl, rfl⟩
    rw [List.zip_append (by rw [List.length_append, List.length_append, htk, hw])] at z
    exact z
  · subst ex eH
    have le : Le W (W.add p (.tup (vs.drop n))) := Le.add rs hp
    refine ⟨_, (B cdv A outer s2 _ E hg hr').pb _ (takes_of rfl rfl rfl rfl), body_of (W := W.add p (.tup (vs.drop n))) (rs.add hp) ((((rd.mono le).take n).app (RDs.ints is)).app (.cons (new_tup rs hp (rd.drop n)) .nil)) hc (kq.mono le) (fun W' C dd fv fs l => kx W' C dd fv fs (le.trans l)) mm⟩
def mTupRg (me : Mr D) : Mr D := fun ρ S Q X => me ρ S (fun d S1 => match d with
  | .int n => (-1000000 ≤ n ∧ n ≤ 1000000) ∧ Q (.tup (rgD 0 (n - 0).toNat)) S1
  | _ => False) X
theorem je_tupRg {a : Expr} {ma : Mr D} {p p2 pos pos2 : Pos} (hc : X.calm = true) (hm : X.mg "tuple" = none) (hm2 : X.mg "range" = none) (ha : JE X a ma) (hg : Gl X "tuple" := by rfl) (hg2 : Gl X "range" := by rfl) (na : starEach [a] X.env = (false, eval a X.env) :: starEach [] X.env := by rfl)
    (na2 : starEach [.Call (.Name "range" p2) [a] [] pos2] X.env = (false, eval (.Call (.Name "range" p2) [a] [] pos2) X.env) :: starEach [] X.env := by rfl) : JE X (.Call (.Name "tuple" p) [.Call (.Name "range" p2) [a] [] pos2] [] pos) (mTupRg ma) :=
  ⟨fun Wx tk => pe_imp (pe_tupRg hc hg hm (prg_1 hg2 hm2 (ha.pe Wx tk) na) na2) fun σ H Q ⟨W, ρ, Qm, Xm, eH, rs, re, xr, k, q⟩ => by
    subst eH
    refine ⟨W, ρ, _, Xm, rfl, rs, re, xr, fun W1 v d l rs1 r1 q1 => ?_, q⟩
    cases r1 <;> first | exact q1.elim | skip
    exact ⟨_, rfl, rg_ok q1.1, (k.mono l).tup rs1 (rg_RDs 0 _) q1.2⟩⟩
section
variable {S : Store} {ρ : Env} {Q : D → Store → Prop} {Y : XC}
def tpK (Q : D → Store → Prop) : D → Store → Prop := fun d S1 => match d with
  | .int n => (-1000000 ≤ n ∧ n ≤ 1000000) ∧ Q (.tup (rgD 0 (n - 0).toNat)) S1
  | _ => False
theorem tupRg_at {me : Mr D} (h : me ρ S (tpK Q) Y) : mTupRg me ρ S Q Y := h
theorem tpK_at {n : Int} (h1 : -1000000 ≤ n ∧ n ≤ 1000000) (h : Q (.tup (rgD 0 (n - 0).toNat)) S) : tpK Q (.int n) S := ⟨h1, h⟩
end
end
end Mir
end

section
set_option Elab.async false
set_option linter.all false
set_option maxRecDepth 100000
set_option maxHeartbeats 1001000
/-! sorted of a tuple of integers. -/
namespace Mir
open PySem L2 PyProof.Rows Srt SrtO SrtR
section
variable {P : Program} {w : World} {A : Around}
    {E : Value → Shared → Prop} {s : Shared}
theorem sorted_tup {t : Addr} {o : Obj} {n : Nat} {its : Array Value} {ns : List Int} {Q : Value → Shared → Prop} (ho : s.heap.get? t = some o) (hc : o.cls = .type "tuple") (hd : o.data = .seq its n) (hi : IntsAre its.toList ns) (hz : its.toList.length ≤ sizeLine)
    (hQ : ∀ (h' : Heap) (p c : Nat) (out : List Value) (ys : List Int), (∀ b u, s.heap.get? b = some u → h'.get? b = some u) → s.heap.get? p = none → h'.get? p = some (seqObj "list" out.toArray c) → IntsAre out ys → ys.Perm ns → ys.Pairwise (· ≤ ·) → Q (.ref p) { s with heap := h' }) :
    wpAny (model P w) A (call (.builtin "sorted") [.ref t]) Q E s := by
  refine Calls.call_function_entry
      kind_sorted plain_sorted entry_sorted (args_sorted1 _) ?_
  unfold Builtin.«sorted»
  refine wpAny_bind (m := checkCount "sorted"
      1 1 _) (wpAny_pure ?_)
  refine wpAny_bind (wpAny_collect_seq t (.inr rfl) ho hc hd (fun h1 k1 => ?_) (by simpa using hz))
  refine wpAny_bind
      (wpAny_newList ?_ hz)
  have hn : s.heap.get? h1.objs.size = none := by
    cases e : s.heap.get? h1.objs.size with
    | none => rfl
    | some u => exact absurd (Heap.lt_size (k1 _ _ e)) (Nat.lt_irrefl _)
  have hoL : (h1.push (seqObj "list" its.toList.toArray 0)).get? h1.objs.size = some (seqObj "list" its.toList.toArray 0) := Heap.get?_push_size _ rfl
  refine wpAny_bind (wpAny_holding (wpAny_call_entry slot_list_sort ⟨_, hoL, rfl⟩ entry_list_sort
    (list_sort_ord swo_int hoL hz (fun h2 => ints_sortable hi h2) fun out hs hb => ⟨_, rfl, ?_⟩) (args_list_sort _)))
  obtain ⟨i1, i2, i3⟩ := ints_out hi hs hb
  obtain ⟨c, hcc⟩ := sortedHeap_at (vs := its.toList) (out := out.toArray) hoL
  refine wpAny_pure ⟨_, rfl, hQ _ h1.objs.size c out _ (fun b u e => ?_) hn hcc i1 i2 i3⟩
  have q := k1 b u e
  have lt := Heap.lt_size q
  show (sortedHeap (h1.push (seqObj "list" its.toList.toArray 0)) h1.objs.size _ _).get? b = some u
  rw [sortedHeap_old (Nat.ne_of_lt lt) (by rw [size_push']; exact Nat.lt_succ_of_lt lt)]
  exact Heap.get?_push_of_some
      _ q
end
section
variable {X : Cx} {K : PySem.W.Frag}
def rSortedT (K : PySem.W.Frag) : List V → Hp → VK → Prop := fun vs H Q => ∃ (a : Addr) (xs : List Int), vs = [V.ref a] ∧ SqT K H a (xs.map V.int) ∧ ∀ (ys : List Int) (p : Addr), ys.Perm xs → ys.Pairwise (· ≤ ·) → H p = none → Q (.ref p) (upd H p (.lst (ys.map V.int)))
theorem cr_sortedT : CallR X (.builtin "sorted") (rSortedT X.K) := by
  rintro pins s σ H vs us Q I r ⟨a, xs, rfl, ht, q⟩
  rw [Vals.ref1 r]
  obtain ⟨its, rv, ⟨o, ho, hc, n, hd⟩, hz⟩ := I.tuple ht
  have hi : IntsAre its.toArray.toList xs := rv.ints
  have hl : its.toArray.toList.length ≤ sizeLine := by show its.length ≤ sizeLine; rw [← rv.length]; exact hz
  refine sorted_tup ho hc hd hi hl fun h' p c out ys k hn hp io pm pw => ?_
  have fr := I.hok.gone hn
  have sz : (ys.map V.int).length ≤ sizeLine := by
    rw [List.length_map, pm.length_eq]
    rw [List.length_map] at hz
    exact hz
  have nw : ObjOk X.prog X.w (upd H p (.lst (ys.map V.int))) h' p (.lst (ys.map V.int)) := ⟨sz, out, c, vals_of_ints io, hp⟩
  exact ⟨.ref p, _, I.laidN (t' := s.toks) k hn fr nw, rfl, q ys p pm pw fr⟩
def fSortedT : FA := fun ds S k => ∃ xs : List Int, ds = [.tup (xs.map D.int)] ∧ ∀ ys : List Int, ys.Perm xs → ys.Pairwise (· ≤ ·) → k (.lst (ys.map D.int))
theorem snd_sortedT : SndA K fSortedT (rSortedT K) := by
  rintro W vs ds Q Qm rs r k ⟨xs, rfl, m⟩
  cases r with
  | cons r1 r2 =>
    cases r2
    cases r1 with
    | tup h1 h2 h3 =>
      exact ⟨_, xs, rfl, .inl (.inl (by rw [h1, RDs.of_ints h3])), fun ys p pm pw hn => k.lst rs (RDs.ints ys) (m ys pm pw) p hn⟩
theorem sortedT_two {S : Store} {a b : Int} {k : D → Prop} (h : k (.lst [.int (min a b), .int (max a b)])) : fSortedT [.tup [.int a, .int b]] S k := by
  refine ⟨[a, b], rfl, fun ys pm pw => ?_⟩
  have e : ys = [min a b, max a b] := by
    have pm2 : ys.Perm [min a b, max a b] := by
      by_cases l : a ≤ b
      · rw [Int.min_eq_left l, Int.max_eq_right l]
        exact pm
      · rw [Int.min_eq_right (by omega), Int.max_eq_left (by omega)]
        exact pm.trans (.swap _ _ _)
    refine pm2.eq_of_pairwise (le := fun x y : Int => x ≤ y) (fun x y _ _ h1 h2 => Int.le_antisymm h1 h2) pw ?_
    simp
    omega
  rw [e]
  exact h
end
end Mir
end

section
set_option Elab.async false
set_option linter.all false
set_option maxRecDepth 100000
set_option maxHeartbeats 1001000
/-! An integer tested by its truth; dict displays with two integer keys. -/
namespace Mir
open PySem L2
section
variable {X : Cx} {e : Expr} {me : Mr D}
def mTruI (me : Mr D) : Mr Bool := fun ρ S Q X => me ρ S (fun d S1 => match d with
  | .int i => Q (i != 0) S1
  | _ => False) X
theorem jt_truI (he : JE X e me) (hw : ∀ whole, isTrue e X.env whole = (do let v ← whole; standAt e.pos; holding [v] (truthy v)) := by intro _; rfl) : JT X e (mTruI me) :=
  ⟨fun Wx tk => pt_imp (pt_truth (he.pe Wx tk) hw) fun σ H Q ⟨W, ρ, Qm, Xm, eH, rs, re, xr, k, m⟩ => by
    subst eH
    refine ⟨W, ρ, _, Xm, rfl, rs, re, xr, fun W1 x d l rs1 r1 m1 => ?_, m⟩
    cases d with
    | int i =>
      cases r1
      exact ⟨i != 0, rfl, k W1 _ _ l rs1 rfl m1⟩
    | _ => exact m1.elim⟩
end
section
variable {S : Store} {Q : Bool → Store → Prop} {X : XC} {ρ : Mir.Env}
def tiK (Q : Bool → Store → Prop) : D → Store → Prop := fun d S1 => match d with
  | .int i => Q (i != 0) S1
  | _ => False
theorem truI_at {me : Mr D} (h : me ρ S (tiK Q) X) : mTruI me ρ S Q X := h
theorem tiK_i {i : Int} (h : Q (i != 0) S) : tiK Q (.int i) S := h
end
end Mir
end

section
set_option Elab.async false
set_option linter.all false
set_option maxRecDepth 100000
set_option maxHeartbeats 1001000
/-! Texts: split, join, int, f-strings. -/
namespace Mir
open PySem L2 PyProof.Rows
section
variable {X : Cx} {a b e : Expr} {ma mb : Mr D}
def mStr2 (f : F2) (ma mb : Mr D) : Mr D := fun ρ S Q X => ma ρ S (fun x S1 => match x with
  | .str a => mb ρ S1 (fun y S2 => f (.str a) y S2 fun d => Q d S2) X
  | _ => False) X
def mStr1 (f : F1) (ma : Mr D) : Mr D := fun ρ S Q X => ma ρ S (fun x S1 => match x with
  | .str a => f (.str a) S1 fun d => Q d S1
  | _ => False) X
theorem je_str2 {f : F2} {r : V → List V → Hp → VK → Prop} (hp : ∀ to te, PE X a to → PE X b te → PE X e (tM1 r to te)) (hs : Snd2 X.K f fun x y H Q => r x [y] H Q) (ha : JE X a ma) (hb : JE X b mb) : JE X e (mStr2 f ma mb) :=
  ⟨fun Wx tk => pe_imp (hp _ _ (ha.pe Wx tk) (hb.pe Wx tk)) fun σ H Q ⟨W, ρ, Qm, Xm, eH, rs, re, xr, k, m⟩ => by
    refine ⟨W, ρ, _, Xm, eH, rs, re, xr, fun W1 x d l1 rs1 r1 m1 => ?_, m⟩
    cases d with
    | str a =>
      cases r1
      refine ⟨⟨a, rfl⟩, W1, ρ, _, Xm, rfl, rs1, re.mono l1, xr.mono l1, fun W2 y d' l2 rs2 r2 m2 => ?_, m1⟩
      exact hs W2 (.str a) y (.str a) d' Q Qm rs2 (.str a) r2 (k.mono (l1.trans l2)) m2
    | _ => exact m1.elim⟩
theorem je_str1 {f : F1} {r : V → List V → Hp → VK → Prop} (hp : ∀ to, PE X a to → PE X e (tM0 r to)) (hs : ∀ (W : Wd) (a : Str) (Q : VK) (Qm : D → Store → Prop), RS X.K W → Cont X.K W RD Q Qm → f (.str a) W.S (fun d => Qm d W.S) → r (.str a) [] W.H Q) (ha : JE X a ma) : JE X e (mStr1 f ma) :=
  ⟨fun Wx tk => pe_imp (hp _ (ha.pe Wx tk)) fun σ H Q ⟨W, ρ, Qm, Xm, eH, rs, re, xr, k, m⟩ => by
    refine ⟨W, ρ, _, Xm, eH, rs, re, xr, fun W1 x d l1 rs1 r1 m1 => ?_, m⟩
    cases d with
    | str a =>
      cases r1
      exact ⟨⟨a, rfl⟩, hs W1 a Q Qm rs1 (k.mono l1) m1⟩
    | _ => exact m1.elim⟩
theorem RDs.strs {W : Wd} : ∀ ys : List Str, RDs W (ys.map V.str) (ys.map D.str)
  | [] => .nil
  | y :: ys => .cons (.str y) (RDs.strs ys)
def strsD : List D → Option (List Str)
  | [] => some []
  | .str y :: r => (strsD r).map (y :: ·)
  | _ => none
theorem strsD_map : ∀ ys : List Str, strsD (ys.map D.str) = some ys
  | [] => rfl
  | y :: ys => by rw [List.map_cons, strsD, strsD_map ys]; rfl
theorem strsD_of {W : Wd} : ∀ {ds : List D} {ys : List Str} {vs : List V}, strsD ds = some ys → RDs W vs ds → vs = ys.map V.str
  | [], _, _, h, r => by cases h; cases r; rfl
  | d :: ds, ys, vs, h, r => by
    cases r with
    | cons a t =>
      cases d with
      | str y =>
        rw [strsD] at h
        cases e : strsD ds with
        | none =>
            rw [e] at h; cases h
        | some zs =>
          rw [e] at h
          cases h
          cases a
          rw [strsD_of e t]
          rfl
      | _ => exact nomatch h
/-- s.split(c) -/
def fSplit : F2 := fun x y S k => ∃ a b : Str, x = .str a ∧ y = .str b ∧ (b.length == 0) = false ∧ a.length + 2 ≤ sizeLine ∧ k (.lst ((Txt.split a b).map D.str))
theorem snd_split {K : PySem.W.Frag} : Snd2 K fSplit (fun x y H Q => ∃ a b, x = .str a ∧ [y] = [V.str b] ∧ (b.length == 0) = false ∧ a.length + 2 ≤ sizeLine ∧ rNewStrs (Txt.split a b) H Q) := by
  rintro W x y d d' Q Qm rs ra rb k ⟨a, b, rfl, rfl, h1, h2, m⟩
  cases ra
  cases rb
  exact ⟨a, b, rfl, rfl, h1, h2, fun p hn => k.lst rs (RDs.strs _) m p hn⟩
/-- s.join(xs) -/
def fJoin : F2 := fun x y S k => ∃ (a : Str) (ys : List Str), x = .str a ∧ asQ S y = some (ys.map D.str) ∧ (ys.map (·.length)).sum + ys.length * a.length ≤ 16777216 ∧ k (.str (Txt.join a ys))
theorem snd_join {K : PySem.W.Frag} : Snd2 K fJoin (fun x y H Q => ∃ a p, ∃ ys : List Str, x = .str a ∧ [y] = [V.ref p] ∧ (SqL K H p (ys.map V.str) ∨ SqT K H p (ys.map V.str)) ∧ (ys.map (·.length)).sum + ys.length * a.length ≤ 16777216 ∧ Q (.str (Txt.join a ys)) H) := by
  rintro W x y d d' Q Qm rs ra rb k ⟨a, ys, rfl, e, h2, m⟩
  cases ra
  obtain ⟨p, vs, rfl, h1, hr⟩ := asQ_of (K := K) rs rb e
  have ev := strsD_of (strsD_map ys) hr
  subst ev
  exact ⟨a, p, ys, rfl, rfl, h1, h2, k W _ _ (Le.refl W) rs (.str _) m⟩
/-- s.removeprefix(p) -/
def fRmPre : F2 := fun x y S k => ∃ a b : Str, x = .str a ∧ y = .str b ∧ a.length ≤ sizeLine ∧ k (.str (Txt.removeprefix a b))
theorem snd_rmPre {K : PySem.W.Frag} : Snd2 K fRmPre (fun x y H Q => ∃ a b, x = .str a ∧ [y] = [V.str b] ∧ a.length ≤ sizeLine ∧ Q (.str (Txt.removeprefix a b)) H) := by
  rintro W x y d d' Q Qm rs ra rb k ⟨a, b, rfl, rfl, h1, m⟩
  cases ra
  cases rb
  exact ⟨a, b, rfl, rfl, h1, k W _ _ (Le.refl W) rs (.str _) m⟩
/-- s.isdecimal() -/
def fIsDec : F1 := fun x S k => ∃ a : Str, x = .str a ∧ k (.bl (Txt.isdecimal a))
/-- int(s) -/
def fIntS : FA := fun ds S k => ∃ (a : Str) (n : Int), ds = [.str a] ∧ PySem.intText? a = some n ∧ a.length ≤ 640 ∧ k (.int n)
theorem snd_intS {K : PySem.W.Frag} : SndA K fIntS (fun xs H Q => ∃ a n, xs = [.str a] ∧ PySem.intText? a = some n ∧ a.length ≤ 640 ∧ Q (.int n) H) := by
  rintro W xs ds Q Qm rs r k ⟨a, n, rfl, h1, h2, m⟩
  cases r with
  | cons r1 r2 =>
    cases r2
    cases r1
    exact ⟨a, n, rfl, h1, h2, k W _ _ (Le.refl W) rs (.int _) m⟩
end
end Mir
end

section
set_option Elab.async false
set_option linter.all false
set_option maxRecDepth 100000
set_option maxHeartbeats 1001000
/-! f-strings, slices and lengths of texts, tuples tested by their truth. -/
namespace Mir
open PySem L2 PyProof.Rows
section
variable {X : Cx} {o e : Expr} {mo me : Mr D} {apos pos : Pos}
theorem je_split (ho : JE X o mo) (he : JE X e me) (hs : starEach [e] X.env = [(false, eval e X.env)] := by rfl) (hbase : attributeBase o "split" X.env (eval o X.env) = eval o X.env := by rfl) (hline : (apos.endLine == pos.line) = true := by rfl) : JE X (.Call (.Attribute o "split" apos) [e] [] pos) (mStr2 fSplit mo me) :=
  je_str2 (fun _ _ h1 h2 => pe_split h1 h2 hs hbase hline) snd_split ho he
theorem je_join (ho : JE X o mo) (he : JE X e me) (hs : starEach [e] X.env = [(false, eval e X.env)] := by rfl) (hbase : attributeBase o "join" X.env (eval o X.env) = eval o X.env := by rfl) (hline : (apos.endLine == pos.line) = true := by rfl) : JE X (.Call (.Attribute o "join" apos) [e] [] pos) (mStr2 fJoin mo me) :=
  je_str2 (fun _ _ h1 h2 => pe_join h1 h2 hs hbase hline) snd_join ho he
theorem je_rmPre (ho : JE X o mo) (he : JE X e me) (hs : starEach [e] X.env = [(false, eval e X.env)] := by rfl) (hbase : attributeBase o "removeprefix" X.env (eval o X.env) = eval o X.env := by rfl) (hline : (apos.endLine == pos.line) = true := by rfl) : JE X (.Call (.Attribute o "removeprefix" apos) [e] [] pos) (mStr2 fRmPre mo me) :=
  je_str2 (fun _ _ h1 h2 => pe_m1 PySem.F.slot_str_removeprefix PySem.F.type_str_removeprefix mt_removeprefix h1 h2 hs hbase hline) snd_rmPre ho he
theorem je_isDec (ho : JE X o mo) (hbase : attributeBase o "isdecimal" X.env (eval o X.env) = eval o X.env := by rfl) (hline : (apos.endLine == pos.line) = true := by rfl) : JE X (.Call (.Attribute o "isdecimal" apos) [] [] pos) (mStr1 fIsDec mo) :=
  je_str1 (fun _ h1 => pe_m0 PySem.F.slot_str_isdecimal PySem.F.type_str_isdecimal mt_isdecimal h1 hbase hline) (fun W a Q Qm rs k ⟨b, eb, m⟩ => by
    cases eb
    exact ⟨a, rfl, rfl, trivial, k W _ _ (Le.refl W) rs (.bl _) m⟩) ho
/-! ### len, slices -/
def fLenS : FA := fun ds S k => ∃ a : Str, ds = [.str a] ∧ a.length ≤ sizeLine ∧ k (.int a.length)
theorem snd_lenS {K : PySem.W.Frag} : SndA K fLenS (fun xs H Q => ∃ z, xs = [.str z] ∧ z.length ≤ sizeLine ∧ Q (.int z.length) H) := by
  rintro W xs ds Q Qm rs r k ⟨a, rfl, h, m⟩
  cases r with
  | cons r1 r2 =>
    cases r2
    cases r1
    exact ⟨a, rfl, h, k W _ _ (Le.refl W) rs (.int _) m⟩
def mCutS (me : Mr D) (ml mu : Mr (Option Int)) : Mr D := fun ρ S Q X => me ρ S (fun d S1 => ml ρ S1 (fun lo S2 => mu ρ S2 (fun hi S3 => ∃ a : Str, d = .str a ∧ a.length ≤ sizeLine ∧ Q (.str (cutS a lo hi)) S3) X) X) X
theorem je_cutS {lo hi : Option Expr} {p2 : Pos} {ml mu : Mr (Option Int)} (he : JE X e me) (hl : JO X lo ml) (hu : JO X hi mu) : JE X (.Subscript e (.Slice lo hi none p2) pos) (mCutS me ml mu) :=
  ⟨fun Wx tk => pe_imp (pe_slice sl_str (he.pe Wx tk) (hl.po Wx tk) (hu.po Wx tk)) fun σ H Q ⟨W, ρ, Qm, Xm, eH, rs, re, xr, k, q⟩ => by
    subst eH
    refine ⟨W, ρ, _, Xm, rfl, rs, re, xr, fun W1 v d l1 rs1 r1 q1 => ?_, q⟩
    refine ⟨W1, ρ, _, Xm, rfl, rs1, re.mono l1, xr.mono l1, fun W2 lo2 lo l2 rs2 r2 q2 => ?_, q1⟩
    subst r2
    refine ⟨W2, ρ, _, Xm, rfl, rs2, re.mono (l1.trans l2), xr.mono (l1.trans l2), fun W3 hi2 hi l3 rs3 r3 q3 => ?_, q2⟩
    subst r3
    obtain ⟨a, rfl, hz, q4⟩ := q3
    cases r1
    exact ⟨a, rfl, hz, k W3 _ _ ((l1.trans l2).trans l3) rs3 (.str _) q4⟩⟩
/-! ### a tuple's truth -/
def mTruT (me : Mr D) : Mr Bool := fun ρ S Q X => me ρ S (fun d S1 => match d with
  | .tup xs => Q (!xs.isEmpty) S1
  | _ => False) X
theorem jt_truT (he : JE X e me) (hw : ∀ whole, isTrue e X.env whole = (do let v ← whole; standAt e.pos; holding [v] (truthy v)) := by intro _; rfl) : JT X e (mTruT me) :=
  ⟨fun Wx tk => pt_imp (pt_truth (he.pe Wx tk) hw) fun σ H Q ⟨W, ρ, Qm, Xm, eH, rs, re, xr, k, m⟩ => by
    subst eH
    refine ⟨W, ρ, _, Xm, rfl, rs, re, xr, fun W1 x d l rs1 r1 m1 => ?_, m⟩
    cases d with
    | tup xs =>
      obtain ⟨p, vs, rfl, hs, hr⟩ := tup_of (K := X.K) r1
      refine ⟨!vs.isEmpty, .inr (.inl ⟨vs, hs, rfl⟩), ?_⟩
      have el : vs.isEmpty = xs.isEmpty := by
        have := hr.length
        cases vs <;> cases xs <;> simp_all
      rw [el]
      exact k W1 _ _ l rs1 rfl m1
    | _ => exact m1.elim⟩
/-! ### f-strings -/
def mFs : List (Mr D) → Str → Mr D
  | [], acc => fun ρ S Q X => Q (.str acc) S
  | m :: false_or_by_contra, acc => fun ρ S Q X => m ρ S (fun d S1 => match d with
    | .str y => (acc ++ y).length ≤ sizeLine ∧ mFs false_or_by_contra (acc ++ y) ρ S1 Q X
    | .int i => i.natAbs.log2 < 1920 ∧ (acc ++ Str.ofString (toString i)).length ≤ sizeLine ∧ mFs false_or_by_contra (acc ++ Str.ofString (toString i)) ρ S1 Q X
    | _ => False) X
inductive JF (X : Cx) : List Expr → List (Mr D) → Prop where
  | nil : JF X [] []
  | c {x : Str} {j : Nat} {p : Pos} {es : List Expr} {false_or_by_contra : List (Mr D)} (r : JF X es false_or_by_contra) : JF X (.Constant (.str x) j p :: es) (mC (.str x) :: false_or_by_contra)
  | f {e : Expr} {me : Mr D} {p : Pos} {es : List Expr} {false_or_by_contra : List (Mr D)} (h : JE X e me) (r : JF X es false_or_by_contra) : JF X (.FormattedValue e (-1) none p :: es) (me :: false_or_by_contra)
theorem le_of_app {a b : Str} {n : Nat} (h : (a ++ b).length ≤ n) : b.length ≤ n := by
  rw [PySem.Str.length_append] at h
  omega
theorem jf_pj {es : List Expr} {false_or_by_contra : List (Mr D)} (h : JF X es false_or_by_contra) (Wx : WX) (tk : Takes X Wx) : ∃ ts, PJ X es ts ∧ ∀ (acc : Str) (W : Wd) (ρ : Env) (Qm : D → Store → Prop) (Xm : XC) (σ : L2.St) (Q : VK), RS X.K W → RE W σ ρ → XR X.K W σ Wx Xm → Cont X.K W RD Q Qm → mFs false_or_by_contra acc ρ W.S Qm Xm → tJs ts acc σ W.H fun out H1 => Q (.str out) H1 := by
  induction h with
  | nil => exact ⟨[], .nil, fun acc W ρ Qm Xm σ Q rs re xr k m => k W _ _ (Le.refl W) rs (.str _) m⟩
  | @c x j p es false_or_by_contra r ih =>
    obtain ⟨ts, hp, hr⟩ := ih
    exact ⟨_, .cons pe_str hp, fun acc W ρ Qm Xm σ Q rs re xr k m => ⟨x, rfl, m.1, hr _ W ρ Qm Xm σ Q rs re xr k m.2⟩⟩
  | @f e me p es false_or_by_contra he r ih =>
    obtain ⟨ts, hp, hr⟩ := ih
    refine ⟨_, .cons (pe_fmt (he.pe Wx tk)) hp, fun acc W ρ Qm Xm σ Q rs re xr k m => ?_⟩
    refine ⟨W, ρ, _, Xm, rfl, rs, re, xr, fun W1 v d l1 rs1 r1 m1 => ?_, m⟩
    cases d with
    | str y =>
      cases r1
      exact .inl ⟨y, rfl, le_of_app m1.1, y, rfl, m1.1, hr _ W1 ρ Qm Xm σ Q rs1 (re.mono l1) (xr.mono l1) (k.mono l1) m1.2⟩
    | int i =>
      cases r1
      exact .inr ⟨i, rfl, m1.1, _, rfl, m1.2.1, hr _ W1 ρ Qm Xm σ Q rs1 (re.mono l1) (xr.mono l1) (k.mono l1) m1.2.2⟩
    | _ => exact m1.elim
theorem je_fs {v1 v2 : Expr} {rest : List Expr} {false_or_by_contra : List (Mr D)} (h : JF X (v1 :: v2 :: rest) false_or_by_contra) : JE X (.JoinedStr (v1 :: v2 :: rest) pos) (mFs false_or_by_contra Str.empty) :=
  ⟨fun Wx tk => by
    obtain ⟨ts, hp, hr⟩ := jf_pj h Wx tk
    refine pe_imp (pe_joined hp) fun σ H Q ⟨W, ρ, Qm, Xm, eH, rs, re, xr, k, m⟩ => ?_
    subst eH
    exact hr _ W ρ Qm Xm σ Q rs re xr k m⟩
end
end Mir
end

section
set_option Elab.async false
set_option linter.all false
set_option maxRecDepth 100000
set_option maxHeartbeats 1001000
/-! (a, *b) = a list. -/
namespace Mir
open PySem L2 PyProof.Rows
section
variable {P : Program} {w : World} {A : Around}
    {E : Value → Shared → Prop} {s : Shared}
theorem items_star {l : Addr} {its : Array Value} {x : Value} {r : List Value} {Q : List Value → Shared → Prop} (hh : A.handled = none) (hl : s.heap.IsList l its) (hi : its.toList = x :: r) (hz : its.size ≤ 16384)
    (hQ : ∀ (h' : Heap) (tk : Nat) (p : Addr), (∀ b o, s.heap.get? b = some o → h'.get? b = some o) → s.heap.get? p = none → h'.get? p = some { cls := .type "list", data := .seq r.toArray } → Q [x, .ref p] { s with heap := h', toks := tk }) :
    wpAny (model P w) A (unpackItems (.ref l) 2 (some 1)) Q E s := by
  obtain ⟨ol, hol, _⟩ := _root_.id hl
  have ll := Heap.lt_size hol
  have ne : l ≠ s.heap.objs.size := Nat.ne_of_lt ll
  have hsz : its.size = r.length + 1 := by
    have := congrArg List.length hi
    rw [Array.length_toList, List.length_cons] at this
    exact this
  unfold unpackItems
  refine wpAny_bind ?_
  unfold notIterableAtAll
  refine wpAny_bind (wpAny_specialOf (hl.typeIs) slot_list_iter.lookup ?_)
  refine wpAny_pure ?_
  simp only [Bool.false_eq_true,
      if_false]
  refine wpAny_bind (wpAny_holding (wpAny_pyIter_list (hl) ?_))
  refine wpAny_bind (wpAny_holding (PySem.W.kun_draw ne 1 0 _ _ ⟨_, Heap.get?_push_size _ rfl, rfl, rfl⟩ (hl.push _) (by omega) fun h1 it1 sb1 => ?_))
  have l1 : h1.IsList l its := (hl.push _).extBut (sb1.extBut) ne
  rw [Nat.zero_add] at it1
  obtain ⟨oi, hoi, _⟩ := _root_.id it1
  obtain ⟨o1, ho1, _⟩ := _root_.id l1
  rw [List.drop_zero, hi]
  simp only [List.take_succ_cons, List.take_zero, List.length_singleton, Nat.lt_irrefl, if_false]
  refine wpAny_bind (wpAny_holding (PySem.W.kun_collect (s := { s with heap := h1 }) (T := "list_iterator") (.inr (.inr (.inl rfl))) (Walks.list (A := A.in1) hh s.heap.objs.size l ne its) (fun j u st => st.1.typeIs) (k := 1) (by omega) ⟨it1, l1⟩ (Heap.lt_size hoi) (Heap.lt_size ho1) (fun h2 tk hk => ?_) (by rw [sizeLine_eq]; omega)))
  rw [hi, List.drop_succ_cons, List.drop_zero]
  show wpAny _ _ (if r.length < 2 - 1 - 1 then _ else _) _ _ _
  rw [if_neg (by omega)]
  show wpAny _ _ (newList (r.take (r.length - (2 - 1 - 1))) >>= fun d => pure ([x] ++ [d] ++ r.drop (r.length - (2 - 1 - 1)))) _ _ _
  have e1 : r.length - (2 - 1 - 1) = r.length := by omega
  rw [e1, List.take_length, List.drop_length]
  have kp : ∀ b o, s.heap.get? b = some o → h2.get? b = some o := fun b o e => hk b o (Nat.ne_of_lt (Heap.lt_size e)) (sb1.extBut b o (Nat.ne_of_lt (Heap.lt_size e)) (Heap.get?_push_of_some _ e))
  refine wpAny_bind (wpAny_newList ?_ (by (rw [sizeLine_eq]; omega)))
  refine wpAny_pure ?_
  show Q [x, .ref h2.objs.size] _
  refine hQ _ tk _ (fun b o e => Heap.get?_push_of_some _ (kp b o e)) ?_ (Heap.get?_push_size _ rfl)
  cases e : s.heap.get? h2.objs.size with
  | none => rfl
  | some o =>
    have := Heap.lt_size (kp _ _ e)
    exact absurd this (Nat.lt_irrefl _)
end
section
variable {X : Cx} {K : PySem.W.Frag}
/-- (a, *b) = a list: the first item, a new list of the others -/
def gStr1 (K : PySem.W.Frag) (t : TGs) : TG := fun v σ H Q => ∃ a x xs, v = .ref a ∧ SqL K H a (x :: xs) ∧ xs.length ≤ 16000 ∧ ∀ p, H p = none → t [x, .ref p] σ (upd H p (.lst xs)) Q
theorem pg_star1 {e1 e2 : Expr} {k : Nat} {p pos : Pos} {t : TGs} (hc : X.calm = true) (h : PGs X [e1, e2] t) (he : (assignEach [e1, .Starred e2 p] X.env).map (·.2) = (assignEach [e1, e2] X.env).map (·.2) := by rfl)
    (hn : (assignEach [e1, .Starred e2 p] X.env).length = 2 := by rfl) (hst : (assignEach [e1, .Starred e2 p] X.env).findIdx? (·.1) = some 1 := by rfl) : PG X (.Tuple [e1, .Starred e2 p] k pos) (gStr1 X.K t) := by
  refine ⟨fun pins s σ H v u Q I r hw =>
      ?_⟩
  obtain ⟨a, x, xs, ev, hq, hl, hw⟩ := hw
  subst ev
  cases r
  obtain ⟨its, rv, pl, hz⟩ :=
      I.list hq
  cases rv with
  | @cons y0 u0 ys us r1 r2 =>
    have hlen := r2.length
    have hl' : s.heap.IsList a (u0 :: us).toArray := by
      obtain ⟨o, m, e, c, d, q⟩ :=
          pl
      exact ⟨o, e, c, m, q⟩
    (rw [PyProof.Rows.assign_Tuple]; skip)
    refine wpAny_bind
        (wpAny_standAt ?_)
    unfold unpack
    rw [hn, hst]
    refine wpAny_bind (wpAny_holding (items_star (I.ok.hd hc) hl' (x := u0) (r := us) (by simp) (by simp; omega) fun h' tk q kp np new => ?_))
    have fr := I.hok.gone np
    have nw : ObjOk X.prog X.w (upd H q (.lst xs)) h' q (.lst xs) := ⟨by rw [sizeLine_eq]; omega, us, 0, r2, new⟩
    have I1 : Inv X pins σ (upd H q (.lst xs)) { s with heap := h', toks := tk } := I.laidN (t' := tk) kp np fr nw
    have z := h.run pins _ σ (upd H q (.lst xs)) [x, .ref q] [u0, .ref q] Q I1 (.cons r1 (.cons rfl .nil)) (hw q fr)
    rw [he]
    exact z
end
end Mir
end

section
set_option Elab.async false
set_option linter.all false
set_option maxRecDepth 100000
set_option maxHeartbeats 1001000
/-! (a, *b) = a list, told of data; enumerate(list, start=k). -/
namespace Mir
open PySem L2 PyProof.Rows
section
variable {X : Cx} {K : PySem.W.Frag}
def gSt (gs : MGs) : MG := fun d ρ S Q => match asL S d with
  | some (x :: xs) => xs.length ≤ 16000 ∧ gs [x, .lst xs] ρ S Q
  | _ => False
theorem jg_star1 {e1 e2 : Expr} {k0 : Nat} {p pos : Pos} {gs : MGs} (hc : X.calm = true) (h : JGs X [e1, e2] gs) (he : (assignEach [e1, .Starred e2 p] X.env).map (·.2) = (assignEach [e1, e2] X.env).map (·.2) := by rfl)
    (hn : (assignEach [e1, .Starred e2 p] X.env).length = 2 := by rfl) (hst : (assignEach [e1, .Starred e2 p] X.env).findIdx? (·.1) = some 1 := by rfl) : JG X (.Tuple [e1, .Starred e2 p] k0 pos) (gSt gs) :=
  ⟨pg_imp (pg_star1 hc h.pg he hn hst) fun v σ H Q ⟨W, ρ, d, Qm, eH, rs, re, r, k, q⟩ => by
    subst eH
    unfold gSt at q
    split at q
    · rename_i x xs e
      obtain ⟨a, vs, rfl, h1, h2⟩ := asL_of (K := X.K) rs r e
      cases h2 with
      | cons r1 r2 =>
        rename_i v0 vr
        refine ⟨a, _, _, rfl, h1, by rw [r2.length]; exact q.1, fun p hp => ?_⟩
        have l := Le.add (u := .lst vr) rs hp
        exact ⟨W.add p (.lst vr), ρ, [x, .lst xs], Qm, rfl, rs.add hp, re.mono l, .cons (r1.mono l) (.cons (new_lst rs hp r2) .nil), fun W' σ' ρ' l' => k W' σ' ρ' (l.trans l'), q.2⟩
    · exact q.elim⟩
end
/-! ### enumerate(list, start=k) -/
section
variable {P : Program} {w : World} {A : Around} {E : Value → Shared → Prop} {s : Shared} {env : PySem.Env}
theorem callWith_tK {pos : Pos} {T : String} {e : Expr} {rest : List Expr} {kws : List Keyword} {Q : Value → Shared → Prop}
    (h : wpAny (model P w) A (spliced (backTo pos (starEach (e :: rest) env))) (fun vs s1 => wpAny (model P w) A (evalAll ((backToKw pos (keywordEach kws env)).map (·.2)))
      (fun us s2 => wpAny (model P w) A (call (.type T) vs (((backToKw pos (keywordEach kws env)).filterMap (·.1)).zip us)) Q E s2) E s1) E s)
    (he : backTo pos (starEach (e :: rest) env) = (false, eval e env) :: backTo pos (starEach rest env)) (hpl : (backTo pos (starEach (e :: rest) env)).any (·.1) = false)
    (hall : (backToKw pos (keywordEach kws env)).all (·.1.isSome) = true) (hkw : (backToKw pos (keywordEach kws env)).any (·.1.isNone) = false) :
    wpAny (model P w) A (callWith pos (.type T) [] (backTo pos (starEach (e :: rest) env)) (backToKw pos (keywordEach kws env))) Q E s := by
  have ev : wpAny (model P w) A (evalArgs (.type T) true (backTo pos (starEach (e :: rest) env)) (backToKw pos (keywordEach kws env))) (fun a s1 => wpAny (model P w) A (call (.type T) ([] ++ a.pos) a.kw) Q E s1) E s := by
    rw [he] at h ⊢
    exact evalArgs_kwB hall h
  unfold callWith
  refine wpAny_bind (wpAny_holding (wpAny_mono ev (fun a s1 q => wpAny_bind (wpAny_standAt ?_)) fun _ _ z => z))
  simp only [hpl, hkw, Bool.or_false]
  refine wpAny_bind
      (wpAny_pure ?_)
  exact wpAny_bind (wpAny_mono q (fun r s2 hr => wpAny_bind (wpAny_holding (wpAny_point (wpAny_pure hr)))) fun _ _ z => z)
end
/-- the list at a, each item in a new pair behind its number, from c on -/
def IteF (K : PySem.W.Frag) (a : Addr) (c : Int) : It :=
  ⟨fun i H => ∃ (xs : List V) (x : V), SqL K H a xs ∧ xs[i]? = some x, fun i H v H' => ∃ T x, v = .ref T ∧ H T = none ∧ H' = upd H T (.tup [.int (c + (i : Int)), x]) ∧ ∀ xs, SqL K H a xs → xs[i]? = some x, fun i H => ∃ xs : List V, SqL K H a xs ∧ xs.length = i⟩
theorem turn_enumF {P : Program} {w : World} {K : PySem.W.Frag} {elts : List Expr} {kk : Nat} {tpos : Pos} (a e it : Addr) (c : Int) :
    Turn P w K (.Tuple elts kk tpos) (IteF K a c) [e, it] e (fun i h => (∃ old, IsEnum h e it (c + (i : Int)) old) ∧ h.IsListIter it a i ∧ e ≠ it ∧ a ≠ it ∧ e ≠ a) where
  mem := by simp
  obj := fun i h st b hb => by
    obtain ⟨⟨old, he⟩, ⟨o, ho, hc, hd⟩, _⟩ :=
        st
    have hb' : b = e ∨ b = it := by simpa using hb
    rcases hb' with z | z
    · exact z ▸ ⟨_, he, fun v q => nomatch q⟩
    · refine z ▸ ⟨o, ho, fun v q => ?_⟩
      rw [hd] at q
      cases q
  keep := fun i h h' st k => by
    obtain ⟨⟨old, he⟩, hi, r⟩ := st
    exact ⟨⟨old, k e (by simp) _ he⟩, hi.at (fun o q => k it (by simp) o q), r⟩
  item := by
    intro X hP hw hK hc i
        pins s σ H E I hf st hg
    subst hP hw hK
    obtain ⟨⟨old, he⟩, hit, hne, hai, hea⟩ := st
    obtain ⟨xs, x, hq, hx⟩ := hg
    obtain ⟨its, rv, p, hz⟩ :=
        I.list hq
    obtain ⟨u, hu, ru⟩ :=
        rv.get hx
    have hL : s.heap.IsList a its.toArray := p.isList
    have le := Heap.lt_size he
    have li : it < s.heap.objs.size := by
      obtain ⟨_, q, _⟩ := hit
      exact Heap.lt_size q
    have hlt : i < its.toArray.size := by
      have := (List.getElem?_eq_some_iff.mp hu).1
      simpa using this
    refine wpAny_pyNext_enum_itemC (Draws.list (A := X.A.in1) (I.ok.hd hc) it a hai its.toArray) he ⟨hit, hL⟩ hlt hne (by simp [hne, hea]) fun y h' tk hy ho st' hT hsz hk => ?_
    have ey : u = y := by
      have z : its[i]? = some y := by simpa using hy
      rw [hu] at z
      exact Option.some.inj z
    subst ey
    refine ⟨_, rfl, wpAny_letOwnedTupleGo_enum (s := { s with heap := h', toks := tk + 1 }) ho fun h2 he2 sb => ?_⟩
    have hT2 : h2.get? s.heap.objs.size = some { cls := .type "tuple", data := .seq #[.int (c + (i : Int)) tk, u] } := (sb.2 _ (Nat.ne_of_gt le)).trans hT
    have new : ObjOk X.prog X.w (upd H s.heap.objs.size (.tup [.int (c + (i : Int)), x])) h2 s.heap.objs.size (.tup [.int (c + (i : Int)), x]) := ⟨by show 2 ≤ sizeLine; decide, [.int (c + (i : Int)) tk, u], .cons ⟨_, rfl⟩ (.cons ru .nil), ⟨_, hT2, rfl, _, rfl⟩⟩
    have kp : ∀ b ob, b ∉ [e, it] → s.heap.get? b = some ob → h2.get? b = some ob := fun b ob hb q => by
      have n1 : b ≠ e := fun z => hb (by simp [z])
      have n2 : b ≠ it := fun z => hb (by simp [z])
      exact (sb.2 b n1).trans (hk b ob n1 n2 q)
    have I1 : Inv X pins σ (upd H s.heap.objs.size (.tup [.int (c + (i : Int)), x])) { s with heap := h2, toks := tk + 1 } := I.turnedNew (ch := [e, it]) kp hf (Nat.le_refl _) new
    refine ⟨.ref s.heap.objs.size, _, I1, rfl, ⟨_, x, rfl, I.hok.fresh (Nat.le_refl _), rfl, fun ys hy => by rw [I.list_inj hy hq]; exact hx⟩, ⟨⟨u, ?_⟩, st'.1.at fun o q => (sb.2 it (Ne.symm hne)).trans q, hne, hai, hea⟩, fun b hb => ?_⟩
    · rw [show c + ((i + 1 : Nat) : Int) = c + (i : Int) + 1 by omega]
      exact he2
    · have lb : b < s.heap.objs.size := by
        have hb' : b = e ∨ b = it := by simpa using hb
        rcases hb' with z | z
        · exact z ▸ le
        · exact z ▸ li
      rw [upd_ne (Nat.ne_of_lt lb)]
      exact (hf b hb).1
  done := by
    intro X hP hw hK hc i
        pins s σ H E I hf st hg
    subst hP hw hK
    obtain ⟨⟨old, he⟩, hit, hne, hai, hea⟩ := st
    obtain ⟨xs, hq, hx⟩ := hg
    obtain ⟨its, rv, p, hz⟩ :=
        I.list hq
    have hL : s.heap.IsList a its.toArray := p.isList
    obtain ⟨f0, f1, f2, f3, f4, f5⟩ :=
        hf it (by simp)
    have hl : its.toArray.size = i := by
      have := rv.length
      simp
      omega
    subst hl
    exact wpAny_pyNext_enum_endD (Draws.list (A := X.A.in1) (I.ok.hd hc) it a hai its.toArray) he ⟨hit, hL⟩ fun h' eb => ⟨rfl, I.turned (t' := s.toks) (fun b o hb q => eb b o hb q) f0 f1 f3 f4 f5⟩
  self :=
      fun A i s Q E st h => by
    obtain ⟨⟨_, he⟩, _⟩ := st
    exact wpAny_pyIter_enum he h
def iEnumF (K : PySem.W.Frag) (c : Int) (ta : TA) : TI := fun σ H R => ta σ H fun vs H1 => ∃ a xs, vs = [.ref a] ∧ SqL K H1 a xs ∧ R (IteF K a c) H1
theorem pi_enumF {X : Cx} {e : Expr} {ta : TA} {p pos tpos kp cp : Pos} {elts : List Expr} {kk j : Nat} {c : Int} (hc0 : -(2 ^ 63) ≤ c) (hc1 : c < 2 ^ 63) (hg : Gl X "enumerate") (hm : X.mg "enumerate" = none) (ha : PA X [e] ta)
    (he : backTo pos (starEach [e] X.env) = (false, eval e X.env) :: backTo pos (starEach [] X.env) := by rfl) (hpl : (backTo pos (starEach [e] X.env)).any (·.1) = false := by rfl)
    (hall : (backToKw pos (keywordEach [⟨some "start", .Constant (.int c) j cp, kp⟩] X.env)).all (·.1.isSome) = true := by rfl)
    (hnone : (backToKw pos (keywordEach [⟨some "start", .Constant (.int c) j cp, kp⟩] X.env)).any (·.1.isNone) = false := by rfl)
    (hks : (backToKw pos (keywordEach [⟨some "start", .Constant (.int c) j cp, kp⟩] X.env)).filterMap (·.1) = [Str.ofString "start"] := by rfl) :
    PI X (.Tuple elts kk tpos) (.Call (.Name "enumerate" p) [e] [⟨some "start", .Constant (.int c) j cp, kp⟩] pos) (iEnumF X.K c ta) := by
  refine ⟨fun pins s σ H R I h =>
      ?_⟩
  refine wpAny_Call_Name_kw (ld_blt (u := .type "enumerate") I hg hm PyProof.Rows.boot_enumerate ?_ (by decide) (by decide))
  refine callWith_tK (thn (ha.run pos pins s σ H _ I h) fun us s1 ⟨vs, H1, I1, r1, q1⟩ => thn ((pk_cons (X := X) (pe_int (i := c)) pk_nil).run pos pins s1 σ H1 (fun zs H2 => zs = [V.int c] ∧ H2 = H1) I1 ⟨rfl, rfl⟩) fun ws s2 ⟨zs, H2, I2, r2, ez, eH⟩ => ?_) he hpl hall hnone
  rw [hks]
  obtain ⟨a, xs, ex, hq, q⟩ :=
      q1
  subst ex ez eH
  rw [Vals.ref1 r1]
  obtain ⟨u, rfl, t, rfl⟩ := vals1 r2
  obtain ⟨its, rv, p', hz⟩ := I2.list hq
  have hL : s2.heap.IsList a its.toArray := p'.isList
  have la : a < s2.heap.objs.size := by
    obtain ⟨_, z, _⟩ := hL
    exact Heap.lt_size z
  refine enum_begins_start (begins_list a its.toArray) hL hc0 hc1 fun h' he' hit hsz hk => wpAny_pyIter_enum he' ?_
  have I3 : Inv X pins σ H2 { s2 with heap := h' } := I2.kept (t' := s2.toks) hk
  refine ⟨s2.heap.objs.size + 1, [s2.heap.objs.size + 1, s2.heap.objs.size], _, _, H2, rfl, I3, turn_enumF a (s2.heap.objs.size + 1) s2.heap.objs.size c, ⟨⟨.none, ?_⟩, ⟨_, hit, rfl, rfl⟩, Nat.succ_ne_self _, Nat.ne_of_lt la, Ne.symm (Nat.ne_of_lt (Nat.lt_succ_of_lt la))⟩, fun b hb => ?_, q⟩
  · rw [show c + ((0 : Nat) : Int) = c by omega]
    exact he'
  · have hle : s2.heap.objs.size ≤ b := by
      have e' : b = s2.heap.objs.size + 1 ∨ b = s2.heap.objs.size := by simpa using hb
      rcases e' with z | z
      · rw [z]
        exact Nat.le_add_right _ _
      · rw [z]
        exact Nat.le_refl _
    exact I2.fpOk hle (I2.hok.fresh hle)
/-- pairs of a number and an item -/
def enF (c : Int) (xs : List D) : List D := xs.zipIdx.map fun z => .tup [.int (c + (z.2 : Int)), z.1]
theorem enF_len (c : Int) (xs : List D) : (enF c xs).length = xs.length := by unfold enF; rw [List.length_map, List.length_zipIdx]
theorem enF_get {c : Int} {xs : List D} {i : Nat} {d : D} : (enF c xs)[i]? = some d ↔ ∃ x, xs[i]? = some x ∧ d = .tup [.int (c + (i : Int)), x] := by
  unfold enF
  rw [List.getElem?_map, List.getElem?_zipIdx]
  cases e : xs[i]? with
  | none => simp
  | some x =>
    simp only [Option.map_some, Option.some.injEq, Nat.zero_add]
    constructor
    · rintro rfl
      exact ⟨x, rfl, rfl⟩
    · rintro ⟨y, rfl, rfl⟩
      rfl
def mEnumF (c : Int) (false_or_by_contra : Mr (List D)) : Mr Pk := fun ρ S Q X => false_or_by_contra ρ S (fun ds S1 => match ds with
  | [.lst xs] => Q (enF c xs, fun _ => True) S1
  | _ => False) X
theorem jr_enF {K : PySem.W.Frag} {W : Wd} {a : Addr} {c : Int} {ds : List D} (h : ∀ W', Le W W' → RS K W' → ∃ vs, SqL K W'.H a vs ∧ RDs W' vs ds) : JR K W (IteF K a c) (enF c ds) fun _ => True := by
  intro W' l rs hk
  obtain ⟨vs, h1, r⟩ := h W' l rs
  refine ⟨fun i d e => ?_, ⟨vs, h1, by rw [enF_len]; exact r.length⟩⟩
  obtain ⟨x, hx, rfl⟩ := enF_get.mp e
  obtain ⟨v, hv, rv⟩ := r.get hx
  refine ⟨⟨vs, v, h1, hv⟩, fun y H' hy => ?_⟩
  obtain ⟨T, u, rfl, hT, rfl, hu⟩ := hy
  have z := hu vs h1
  rw [hv] at z
  cases z
  exact ⟨W'.add T (.tup [.int (c + (i : Int)), v]), rfl, rfl, Le.add rs hT, rs.add hT, new_tup rs hT (.cons (.int _) (.cons rv .nil))⟩
theorem ji_enumF {X : Cx} {e : Expr} {false_or_by_contra : Mr (List D)} {p pos tpos kp cp : Pos} {elts : List Expr} {kk j : Nat} {c : Int} (hc0 : -(2 ^ 63) ≤ c) (hc1 : c < 2 ^ 63) (ha : JA X [e] false_or_by_contra) (hm : X.mg "enumerate" = none) (hg : Gl X "enumerate" := by rfl)
    (he : backTo pos (starEach [e] X.env) = (false, eval e X.env) :: backTo pos (starEach [] X.env) := by rfl) (hpl : (backTo pos (starEach [e] X.env)).any (·.1) = false := by rfl)
    (hall : (backToKw pos (keywordEach [⟨some "start", .Constant (.int c) j cp, kp⟩] X.env)).all (·.1.isSome) = true := by rfl)
    (hnone : (backToKw pos (keywordEach [⟨some "start", .Constant (.int c) j cp, kp⟩] X.env)).any (·.1.isNone) = false := by rfl)
    (hks : (backToKw pos (keywordEach [⟨some "start", .Constant (.int c) j cp, kp⟩] X.env)).filterMap (·.1) = [Str.ofString "start"] := by rfl) :
    JI X (.Tuple elts kk tpos) (.Call (.Name "enumerate" p) [e] [⟨some "start", .Constant (.int c) j cp, kp⟩] pos) (mEnumF c false_or_by_contra) :=
  ⟨fun Wx tk => pi_imp (pi_enumF hc0 hc1 hg hm (ha.pa Wx tk) he hpl hall hnone hks) fun σ H R ⟨W, ρ, Qm, Xm, eH, rs, re, xr, k, q⟩ => by
    subst eH
    refine ⟨W, ρ, _, Xm, rfl, rs, re, xr, fun W1 vs ds l rs1 r1 q1 => ?_, q⟩
    split at q1
    · cases r1 with
      | cons r2 r3 =>
        cases r3
        cases r2 with
        | lst h1 h2 h3 => exact ⟨_, _, rfl, .inl (.inl h1), k W1 _ _ l rs1 (jr_enF fun W' l' rs' => ⟨_, .inl (.inl (l'.k _ _ h1 h2).1), h3.mono l'⟩) q1⟩
    · exact q1.elim⟩
end Mir
end

section
set_option Elab.async false
set_option linter.all false
set_option maxRecDepth 100000
set_option maxHeartbeats 4000100
/-! the program of this law, def by def (printed by gen.py) -/
namespace K55
open PySem L2 Mir
abbrev top (i : Nat) : Stmt := PySem.Challenge.pw_coupledyard_k55_whole_texts_of_yards.main.body.getD i (.Pass ⟨0, 0, 0, 0⟩)
def DrP (n : Int) : List (Key × D) → Prop := fun kvs => ∃ (xs : List Int) (at_ left : Int), 0 ≤ at_ ∧ at_ ≤ n ∧ 0 ≤ left ∧ kvs = [(.inr "script", .frz (xs.map D.int)), (.inr "at", .int at_), (.inr "left", .int left)]
abbrev sis_integer : Stmt := top 8
abbrev sis_integer_from : Stmt := top 9
abbrev sis_tuple_of : Stmt := top 10
abbrev svalidate_yard : Stmt := top 11
abbrev sis_yard : Stmt := top 12
abbrev s_check_pairs : Stmt := top 13
abbrev s_is_pair_of_places : Stmt := top 14
abbrev s_check_couplings : Stmt := top 15
abbrev s_is_coupling : Stmt := top 16
abbrev s_joined : Stmt := top 17
abbrev syard_text : Stmt := top 20
abbrev sparse_yard : Stmt := top 21
abbrev s_with_line : Stmt := top 22
abbrev s_integer : Stmt := top 23
abbrev s_law_begun : Stmt := top 25
abbrev s_law_next : Stmt := top 26
abbrev s_law_of : Stmt := top 27
abbrev s_law_shuffled : Stmt := top 28
abbrev s_law_yard : Stmt := top 29
abbrev s_law_text : Stmt := top 30
abbrev s_law_read : Stmt := top 31
abbrev slaw : Stmt := top 32
def mis_integer : MF := mFn 1 0 (mRet (mAndV (mIsi .int (mVar 0)) (mNotV (mIsi .bl (mVar 0)))))
def mis_tuple_of : MF := mFn 2 0 (mRet (mAndV (mIsi .tup (mVar 0)) (mOp fEq (mApp fLen (mCons (mVar 0) (mNil))) (mVar 1))))
def m_joined : MF := mFn 3 1 (mRet (mLc (mWk (mVar 0)) (.nm 3) [3] (mYes) (mIf (mT (mOp fEq (mVar 3) (mVar 2))) (mVar 1) (mVar 3))))
def m_integer : MF := mFn 1 1 (mSeq (mIte (mOr (mT (mOp fGt (mApp fLenS (mCons (mVar 0) (mNil))) (mC (.int (12))))) (mNot (mT (mStr1 fIsDec (mStr2 fRmPre (mVar 0) (mC (.str "-"))))))) (mRet (mC .non)) (mNext))
    (mSeq (mSet 1 (mApp fIntS (mCons (mVar 0) (mNil))))
    (mSeq (mIte (mT (mOp fNe (mApp fStrI (mCons (mVar 1) (mNil))) (mVar 0))) (mRet (mC .non)) (mNext))
    (mRet (mVar 1)))))
def m_law_begun : MF := mFn 1 0 (mRet (mDisp [(mC (.str "script"), mVar 0), (mC (.str "at"), mC (.int 0)), (mC (.str "left"), mC (.int 0))]))
def m_law_next : MF := mFn 2 4 (mSeq (mIte (mT (mOp fGt (mOp fDGet (mVar 0) (mC (.str "left"))) (mC (.int 0)))) (mSeq (mSet 5 (mOp fMod (mOp fDGet (mVar 0) (mC (.str "left"))) (mVar 1)))
    (mSeq (mDPut (mVar 0) (mC (.str "left")) (mOp fDiv (mOp fDGet (mVar 0) (mC (.str "left"))) (mVar 1)))
    (mRet (mVar 5)))) (mNext))
    (mSeq (mSet 2 (mOp fDGet (mVar 0) (mC (.str "at"))))
    (mSeq (mDPut (mVar 0) (mC (.str "at")) (mOp fAdd (mVar 2) (mC (.int 1))))
    (mSeq (mSet 3 (mIf (mT (mOp fNe (mOp fDGet (mVar 0) (mC (.str "script"))) (mLst (mNil)))) (mOp fIx (mOp fDGet (mVar 0) (mC (.str "script"))) (mOp fMod (mVar 2) (mApp fLen (mCons (mOp fDGet (mVar 0) (mC (.str "script"))) (mNil))))) (mC (.int 0))))
    (mSeq (mIte (mAnd (mT (mOp fGe (mVar 3) (mOp fPow (mC (.int 10)) (mC (.int 18))))) (mT (mOp fLt (mVar 2) (mApp fLen (mCons (mOp fDGet (mVar 0) (mC (.str "script"))) (mNil)))))) (mSeq (mDPut (mVar 0) (mC (.str "left")) (mOp fDiv (mVar 3) (mVar 1)))
    (mRet (mOp fMod (mVar 3) (mVar 1)))) (mNext))
    (mSeq (mSet 4 (mOp fAdd (mOp fMul (mOp fMod (mVar 3) (mC (.int 1000003))) (mC (.int 48271))) (mOp fMod (mOp fDiv (mVar 3) (mC (.int 1000003))) (mC (.int 1000003)))))
    (mSeq (mSet 4 (mOp fMod (mOp fAdd (mOp fAdd (mOp fAdd (mVar 4) (mOp fMul (mOp fMul (mC (.int 7919)) (mVar 2)) (mVar 2))) (mOp fMul (mC (.int 104729)) (mVar 2))) (mC (.int 59))) (mC (.int 2147483647))))
    (mRet (mOp fMod (mOp fDiv (mOp fMod (mOp fMul (mOp fMod (mOp fMul (mVar 4) (mVar 4)) (mC (.int 2147483629))) (mC (.int 69621))) (mC (.int 2147483587))) (mC (.int 7))) (mVar 1))))))))))
def m_law_text : MF := mFn 1 4 (mSeq (mSet 1 (mLc (mWk (mOp fIx (mVar 0) (mC (.int 0)))) (.nm 2) [2] (mYes) (mOp fAdd (mC (.str "wagon ")) (mStr2 fJoin (mC (.str " ")) (mLc (mWk (mVar 2)) (.nm 4) [4] (mYes) (mApp fStrI (mCons (mVar 4) (mNil))))))))
    (mSeq (mSet 1 (mOp fAdd (mVar 1) (mLc (mWk (mOp fIx (mVar 0) (mC (.int 1)))) (.nm 3) [3] (mYes) (mOp fAdd (mC (.str "coupling ")) (mStr2 fJoin (mC (.str " ")) (mLc (mWk (mVar 3)) (.nm 4) [4] (mYes) (mApp fStrI (mCons (mVar 4) (mNil)))))))))
    (mRet (mStr2 fJoin (mC (.str "\n")) (mVar 1)))))
def m_law_read : MF := mFn 1 5 (mSeq (mPar 2 3 (mCons (mNew (mNil)) (mCons (mNew (mNil)) (mNil))))
    (mSeq (mFor (mWk (mStr2 fSplit (mVar 0) (mC (.str "\n")))) (gN 1) (mSeq (mSet 4 (mApp fTuple (mCons (mLc (mWk (mSlice (mStr2 fSplit (mVar 1) (mC (.str " "))) (mP (mC (.int 1))) (mNoP))) (.nm 5) [5] (mYes) (mApp fIntS (mCons (mVar 5) (mNil)))) (mNil))))
    (mIte (mT (mOp fEq (mCutS (mVar 1) (mNoP) (mP (mC (.int 6)))) (mC (.str "wagon ")))) (mDrop (mMeth gAppend (mVar 2) (mCons (mVar 4) (mNil)))) (mDrop (mMeth gAppend (mVar 3) (mCons (mVar 4) (mNil)))))))
    (mRet (mTup (mCons (mApp fTuple (mCons (mVar 2) (mNil))) (mCons (mApp fTuple (mCons (mVar 3) (mNil))) (mNil)))))))
def mis_integer_from : MF := mFn 3 0 (mRet (mAndV (mCall 1 mis_integer (mCons (mVar 0) (mNil))) (mChain fLeM fLeM (mVar 1) (mVar 0) (mVar 2))))
def m_with_line : MF := mFn 2 6 (mSeq (mAsg (mVar 0) (gQ 2 (gCo (gN 3) (gCo (gN 4) (gNi)))))
    (mSeq (mAsg (mStr2 fSplit (mVar 1) (mC (.str " "))) (gSt (gCo (gN 5) (gCo (gN 6) (gNi)))))
    (mSeq (mSet 2 (mApp fTuple (mCons (mLc (mWk (mVar 6)) (.nm 7) [7] (mYes) (mCall 1 m_integer (mCons (mVar 7) (mNil)))) (mNil))))
    (mSeq (mIte (mAnd (mT (mOp fEq (mVar 5) (mC (.str "wagon")))) (mNot (mTruT (mVar 4)))) (mRet (mTup (mCons (mOp fAdd (mVar 3) (mTup (mCons (mVar 2) (mNil)))) (mCons (mVar 4) (mNil))))) (mNext))
    (mSeq (mIte (mT (mOp fEq (mVar 5) (mC (.str "coupling")))) (mRet (mTup (mCons (mVar 3) (mCons (mOp fAdd (mVar 4) (mTup (mCons (mVar 2) (mNil)))) (mNil))))) (mNext))
    (mRet (mC .non)))))))
def m_law_of : MF := mFn 2 0 (mRet (mOp fIx (mVar 1) (mCall 2 (orcF m_law_next) (mCons (mVar 0) (mCons (mApp fLen (mCons (mVar 1) (mNil))) (mNil))))))
def m_law_shuffled : MF := mFn 2 2 (mSeq (mPar 2 3 (mCons (mListN (mCons (mVar 1) (mNil))) (mCons (mNew (mNil)) (mNil))))
    (mSeq (mWhile (mT (mOp fNe (mVar 2) (mLst (mNil)))) (mDrop (mMeth gAppend (mVar 3) (mCons (mMeth gPopAt (mVar 2) (mCons (mCall 2 (orcF m_law_next) (mCons (mVar 0) (mCons (mApp fLen (mCons (mVar 2) (mNil))) (mNil)))) (mNil))) (mNil)))))
    (mRet (mFrz (mVar 3)))))
def m_is_pair_of_places : MF := mFn 1 1 (mSeq (mIte (mNot (mT (mCall 2 mis_tuple_of (mCons (mVar 0) (mCons (mC (.int 2)) (mNil)))))) (mRet (mC (.bl false))) (mNext))
    (mSeq (mFor (mWk (mVar 0)) (gN 1) (mIte (mNot (mT (mCall 3 mis_integer_from (mCons (mVar 1) (mCons (mUn fNeg (mC (.int (1000000000)))) (mCons (mC (.int (1000000000))) (mNil))))))) (mRet (mC (.bl false))) (mNext)))
    (mRet (mOp fLeM (mOp fIx (mVar 0) (mC (.int 0))) (mOp fIx (mVar 0) (mC (.int 1)))))))
def m_is_coupling : MF := mFn 2 6 (mSeq (mIte (mNot (mT (mCall 2 mis_tuple_of (mCons (mVar 0) (mCons (mC (.int 4)) (mNil)))))) (mRet (mC (.bl false))) (mNext))
    (mSeq (mAsg (mVar 0) (gQ 4 (gCo (gN 4) (gCo (gN 5) (gCo (gN 6) (gCo (gN 7) (gNi)))))))
    (mSeq (mFor (mWk (mTup (mCons (mVar 4) (mCons (mVar 5) (mNil))))) (gN 2) (mIte (mNot (mT (mCall 3 mis_integer_from (mCons (mVar 2) (mCons (mC (.int 0)) (mCons (mOp fSub (mVar 1) (mC (.int 1))) (mNil))))))) (mRet (mC (.bl false))) (mNext)))
    (mSeq (mFor (mWk (mTup (mCons (mVar 6) (mCons (mVar 7) (mNil))))) (gN 3) (mIte (mNot (mT (mCall 3 mis_integer_from (mCons (mVar 3) (mCons (mUn fNeg (mC (.int (10000000000)))) (mCons (mC (.int (10000000000))) (mNil))))))) (mRet (mC (.bl false))) (mNext)))
    (mRet (mAndV (mOp fLt (mVar 4) (mVar 5)) (mOp fLt (mVar 6) (mVar 7))))))))
def m_law_yard : MF := mFn 3 13 (mSeq (mSet 3 (mOp fAdd (mC (.int 1)) (mCall 2 (orcF m_law_next) (mCons (mVar 0) (mCons (mVar 1) (mNil))))))
    (mSeq (mSet 4 (mOp fIx (mLst (mCons (mC (.int 0)) (mCons (mC (.int 0)) (mCons (mOp fSub (mOp fPow (mC (.int 10)) (mC (.int 9))) (mOp fMul (mC (.int 4)) (mVar 2))) (mCons (mOp fSub (mOp fMul (mC (.int 4)) (mVar 2)) (mOp fPow (mC (.int 10)) (mC (.int 9)))) (mNil)))))) (mCall 2 (orcF m_law_next) (mCons (mVar 0) (mCons (mC (.int 4)) (mNil))))))
    (mSeq (mSet 5 (mLc (mRg1 (mCons (mVar 3) (mNil))) (.nm 10) [10] (mYes) (mOp fSub (mOp fAdd (mVar 4) (mCall 2 (orcF m_law_next) (mCons (mVar 0) (mCons (mOp fAdd (mOp fMul (mC (.int 2)) (mVar 2)) (mC (.int 1))) (mNil))))) (mVar 2))))
    (mSeq (mSet 6 (mApp fTuple (mCons (mLc (mWk (mVar 5)) (.nm 12) [12] (mYes) (mTup (mCons (mOp fSub (mVar 12) (mCall 2 (orcF m_law_next) (mCons (mVar 0) (mCons (mOp fAdd (mVar 2) (mC (.int 1))) (mNil))))) (mCons (mOp fAdd (mVar 12) (mCall 2 (orcF m_law_next) (mCons (mVar 0) (mCons (mOp fAdd (mVar 2) (mC (.int 1))) (mNil))))) (mNil))))) (mNil))))
    (mSeq (mPar 8 9 (mCons (mCall 2 m_law_shuffled (mCons (mVar 0) (mCons (mListRg (mVar 3)) (mNil)))) (mCons (mNew (mNil)) (mNil))))
    (mSeq (mFor (mRg2 (mCons (mC (.int 1)) (mCons (mVar 3) (mNil)))) (gN 7) (mIte (mT (mOp fGt (mCall 2 (orcF m_law_next) (mCons (mVar 0) (mCons (mC (.int 5)) (mNil)))) (mC (.int 0)))) (mSeq (mAsg (mApp fSorted (mCons (mLst (mCons (mOp fIx (mVar 8) (mVar 7)) (mCons (mOp fIx (mVar 8) (mCall 2 m_law_of (mCons (mVar 0) (mCons (mLst (mCons (mOp fSub (mVar 7) (mC (.int 1))) (mCons (mC (.int 0)) (mCons (mCall 2 (orcF m_law_next) (mCons (mVar 0) (mCons (mVar 7) (mNil)))) (mNil))))) (mNil))))) (mNil)))) (mNil))) (gQ 2 (gCo (gN 13) (gCo (gN 14) (gNi)))))
    (mSeq (mPar 15 11 (mCons (mCall 2 (orcF m_law_next) (mCons (mVar 0) (mCons (mC (.int 3)) (mNil)))) (mCons (mCall 2 (orcF m_law_next) (mCons (mVar 0) (mCons (mC (.int 4)) (mNil)))) (mNil))))
    (mSeq (mSet 11 (mOp fAdd (mVar 11) (mApp fInt1 (mCons (mOp fEq (mOp fAdd (mVar 15) (mVar 11)) (mC (.int 0))) (mNil)))))
    (mDrop (mMeth gAppend (mVar 9) (mCons (mTup (mCons (mVar 13) (mCons (mVar 14) (mCons (mOp fSub (mOp fSub (mOp fIx (mVar 5) (mVar 14)) (mOp fIx (mVar 5) (mVar 13))) (mVar 15)) (mCons (mOp fAdd (mOp fSub (mOp fIx (mVar 5) (mVar 14)) (mOp fIx (mVar 5) (mVar 13))) (mVar 11)) (mNil)))))) (mNil))))))) (mNext)))
    (mRet (mTup (mCons (mTup (mCons (mVar 6) (mCons (mApp fTuple (mCons (mApp fSorted (mCons (mVar 9) (mNil))) (mNil))) (mNil)))) (mCons (mApp fTuple (mCons (mVar 5) (mNil))) (mNil)))))))))))
def m_check_pairs : MF := mFn 1 2 (mSeq (mIte (mOr (mNot (mT (mIsi .tup (mVar 0)))) (mNot (mT (mChain fLeM fLeM (mC (.int 1)) (mApp fLen (mCons (mVar 0) (mNil))) (mC (.int (40))))))) (mNever) (mNext))
    (mFor (mEnum (mCons (mVar 0) (mNil))) (gQ 2 (gCo (gN 1) (gCo (gN 2) (gNi)))) (mIte (mNot (mT (mCall 1 m_is_pair_of_places (mCons (mVar 2) (mNil))))) (mNever) (mNext))))
def m_check_couplings : MF := mFn 2 7 (mSeq (mIte (mNot (mT (mIsi .tup (mVar 0)))) (mNever) (mNext))
    (mSeq (mSet 2 (mListRg (mVar 1)))
    (mSeq (mSet 3 (mTup (mNil)))
    (mFor (mEnum (mCons (mVar 0) (mNil))) (gQ 2 (gCo (gN 4) (gCo (gN 5) (gNi)))) (mSeq (mIte (mNot (mT (mCall 2 m_is_coupling (mCons (mVar 5) (mCons (mVar 1) (mNil)))))) (mNever) (mNext))
    (mSeq (mSet 6 (mSlice (mVar 5) (mNoP) (mP (mC (.int 2)))))
    (mSeq (mAsg (mVar 6) (gQ 2 (gCo (gN 7) (gCo (gN 8) (gNi)))))
    (mSeq (mIte (mOr (mT (mOp fLeM (mVar 6) (mVar 3))) (mT (mOp fEq (mOp fIx (mVar 2) (mVar 7)) (mOp fIx (mVar 2) (mVar 8))))) (mNever) (mNext))
    (mSeq (mSet 2 (mCall 3 m_joined (mCons (mVar 2) (mCons (mOp fIx (mVar 2) (mVar 7)) (mCons (mOp fIx (mVar 2) (mVar 8)) (mNil))))))
    (mSet 3 (mVar 6)))))))))))
def mvalidate_yard : MF := mFn 1 2 (mSeq (mIte (mNot (mT (mCall 2 mis_tuple_of (mCons (mVar 0) (mCons (mC (.int 2)) (mNil)))))) (mNever) (mNext))
    (mSeq (mAsg (mVar 0) (gQ 2 (gCo (gN 1) (gCo (gN 2) (gNi)))))
    (mSeq (mDrop (mCall 1 m_check_pairs (mCons (mVar 1) (mNil))))
    (mDrop (mCall 2 m_check_couplings (mCons (mVar 2) (mCons (mApp fLen (mCons (mVar 1) (mNil))) (mNil))))))))
def mis_yard : MF := mFn 1 0 (mSeq (mThru (mDrop (mCall 1 mvalidate_yard (mCons (mVar 0) (mNil)))))
    (mRet (mC (.bl true))))
def myard_text : MF := mFn 1 8 (mSeq (mDrop (mCall 1 mvalidate_yard (mCons (mVar 0) (mNil))))
    (mSeq (mSet 1 (mLc (mWk (mOp fIx (mVar 0) (mC (.int 0)))) (.tp [.nm 3, .nm 4]) [3, 4] (mYes) (mFs [mC (.str "wagon "), mVar 3, mC (.str " "), mVar 4] Str.empty)))
    (mSeq (mSet 2 (mLc (mWk (mOp fIx (mVar 0) (mC (.int 1)))) (.tp [.nm 5, .nm 6, .nm 7, .nm 8]) [5, 6, 7, 8] (mYes) (mFs [mC (.str "coupling "), mVar 5, mC (.str " "), mVar 6, mC (.str " "), mVar 7, mC (.str " "), mVar 8] Str.empty)))
    (mRet (mStr2 fJoin (mC (.str "\n")) (mOp fAdd (mVar 1) (mVar 2)))))))
def mparse_yard : MF := mFn 1 3 (mSeq (mIte (mNot (mT (mIsi .str (mVar 0)))) (mNever) (mNext))
    (mSeq (mSet 1 (mTup (mCons (mTup (mNil)) (mCons (mTup (mNil)) (mNil)))))
    (mSeq (mFor (mEnumF 1 (mCons (mStr2 fSplit (mVar 0) (mC (.str "\n"))) (mNil))) (gQ 2 (gCo (gN 2) (gCo (gN 3) (gNi)))) (mSeq (mSet 1 (mCall 2 m_with_line (mCons (mVar 1) (mCons (mVar 3) (mNil)))))
    (mIte (mNot (mT (mCall 1 mis_yard (mCons (mVar 1) (mNil))))) (mNever) (mNext))))
    (mRet (mVar 1)))))
def mlaw : MF := mFn 1 11 (mSeq (mSet 1 (mToOrc (DrP 0) (mCall 1 m_law_begun (mCons (mVar 0) (mNil)))))
    (mSeq (mFor (mRg1 (mCons (mOp fAdd (mC (.int 3)) (mApp (fTwo (fun i j => if j < i then j else i)) (mCons (mC (.int 8)) (mCons (mApp fLen (mCons (mVar 0) (mNil))) (mNil))))) (mNil))) (gN 2) (mSeq (mSet 3 (mOp fIx (mCall 3 m_law_yard (mCons (mVar 1) (mCons (mOp fIx (mLst (mCons (mC (.int 1)) (mCons (mC (.int 4)) (mCons (mC (.int 40)) (mNil))))) (mCall 2 (orcF m_law_next) (mCons (mVar 1) (mCons (mC (.int 3)) (mNil))))) (mCons (mOp fIx (mLst (mCons (mC (.int 3)) (mCons (mC (.int 900)) (mNil)))) (mCall 2 (orcF m_law_next) (mCons (mVar 1) (mCons (mC (.int 2)) (mNil))))) (mNil))))) (mC (.int 0))))
    (mSeq (mIte (mT (mOp fEq (mCall 2 (orcF m_law_next) (mCons (mVar 1) (mCons (mC (.int 3)) (mNil)))) (mC (.int 0)))) (mSeq (mSet 5 (mApp fTuple (mCons (mLc (mWk (mOp fIx (mVar 3) (mC (.int 0)))) (.nm 7) [7] (mYes) (mTup (mCons (mOp fSub (mC (.int 0)) (mOp fPow (mC (.int 10)) (mC (.int 9)))) (mCons (mOp fPow (mC (.int 10)) (mC (.int 9))) (mNil))))) (mNil))))
    (mSeq (mSet 6 (mLc (mWk (mOp fIx (mVar 3) (mC (.int 1)))) (.tp [.nm 8, .nm 9, .nm 10, .nm 11]) [8, 9, 10, 11] (mYes) (mTup (mCons (mVar 8) (mCons (mVar 9) (mCons (mOp fSub (mC (.int 0)) (mOp fPow (mC (.int 10)) (mC (.int 10)))) (mCons (mOp fPow (mC (.int 10)) (mC (.int 10))) (mNil))))))))
    (mSet 3 (mTup (mCons (mVar 5) (mCons (mApp fTuple (mCons (mVar 6) (mNil))) (mNil))))))) (mNext))
    (mSeq (mSet 4 (mCall 1 (mKw [0] myard_text) (mCons (mVar 3) (mNil))))
    (mIte (mOr (mT (mOp fNe (mVar 4) (mCall 1 m_law_text (mCons (mVar 3) (mNil))))) (mOr (mT (mOp fNe (mCall 1 (mKw [0] mparse_yard) (mCons (mVar 4) (mNil))) (mVar 3))) (mOr (mT (mOp fNe (mCall 1 m_law_read (mCons (mVar 4) (mNil))) (mVar 3))) (mNot (mT (mCall 1 mis_yard (mCons (mVar 3) (mNil)))))))) (mRet (mC (.bl false))) (mNext))))))
    (mRet (mOp fEq (mCall 1 mparse_yard (mCons (mC (.str "wagon 0 0")) (mNil))) (mTup (mCons (mTup (mCons (mTup (mCons (mC (.int 0)) (mCons (mC (.int 0)) (mNil)))) (mNil))) (mCons (mTup (mNil)) (mNil))))))))
/-- a def as the written part has it -/
structure DefAt (K : PySem.W.Frag) (mg : Str → Option Value) (f : Addr) (x : Str) (st : Stmt) : Prop where
  gl : mg x = some (.ref f)
  fn : ∃ fd, Fun K x x st f fd
theorem DefAt.kp {K : PySem.W.Frag} {mg : Str → Option Value} {f : Addr} {x : Str} {st : Stmt} (h : DefAt K mg f x st) : PySem.W.keepIn K (.ref f) = true := h.fn.elim fun _ z => z.kp
structure Txt (K : PySem.W.Frag) (mg : Str → Option Value) (ad : Nat → Addr) : Prop where
  d_is_integer : DefAt K mg (ad 0) "is_integer" sis_integer
  d_is_integer_from : DefAt K mg (ad 1) "is_integer_from" sis_integer_from
  d_is_tuple_of : DefAt K mg (ad 2) "is_tuple_of" sis_tuple_of
  d_validate_yard : DefAt K mg (ad 3) "validate_yard" svalidate_yard
  d_is_yard : DefAt K mg (ad 4) "is_yard" sis_yard
  d__check_pairs : DefAt K mg (ad 5) "_check_pairs" s_check_pairs
  d__is_pair_of_places : DefAt K mg (ad 6) "_is_pair_of_places" s_is_pair_of_places
  d__check_couplings : DefAt K mg (ad 7) "_check_couplings" s_check_couplings
  d__is_coupling : DefAt K mg (ad 8) "_is_coupling" s_is_coupling
  d__joined : DefAt K mg (ad 9) "_joined" s_joined
  d_yard_text : DefAt K mg (ad 10) "yard_text" syard_text
  d_parse_yard : DefAt K mg (ad 11) "parse_yard" sparse_yard
  d__with_line : DefAt K mg (ad 12) "_with_line" s_with_line
  d__integer : DefAt K mg (ad 13) "_integer" s_integer
  d__law_begun : DefAt K mg (ad 14) "_law_begun" s_law_begun
  d__law_next : DefAt K mg (ad 15) "_law_next" s_law_next
  d__law_of : DefAt K mg (ad 16) "_law_of" s_law_of
  d__law_shuffled : DefAt K mg (ad 17) "_law_shuffled" s_law_shuffled
  d__law_yard : DefAt K mg (ad 18) "_law_yard" s_law_yard
  d__law_text : DefAt K mg (ad 19) "_law_text" s_law_text
  d__law_read : DefAt K mg (ad 20) "_law_read" s_law_read
  d_law : DefAt K mg (ad 21) "law" slaw
  n_bool : mg "bool" = none
  n_enumerate : mg "enumerate" = none
  n_int : mg "int" = none
  n_isinstance : mg "isinstance" = none
  n_len : mg "len" = none
  n_list : mg "list" = none
  n_min : mg "min" = none
  n_range : mg "range" = none
  n_sorted : mg "sorted" = none
  n_str : mg "str" = none
  n_tuple : mg "tuple" = none
  g_MOST_WAGONS : ∃ t, mg "MOST_WAGONS" = some (.int (40) t)
  g_MOST_PLACE : ∃ t, mg "MOST_PLACE" = some (.int (1000000000) t)
  g_MOST_DIFFERENCE : ∃ t, mg "MOST_DIFFERENCE" = some (.int (10000000000) t)
  g_MOST_SIGNS : ∃ t, mg "MOST_SIGNS" = some (.int (12) t)
variable {P : Program} {w : World} {K : PySem.W.Frag} {mg : Str → Option Value} {ad : Nat → Addr} {base : Heap}
theorem scis_integer : FnScope ["value"] ["value"] (defScope sis_integer) := ⟨rfl, rfl, rfl, by decide +kernel, rfl, by decide +kernel, by decide +kernel⟩
theorem bis_integer (T : Txt K mg ad) : BodyOk P w K mg base ["value"] "is_integer" sis_integer (ad 0) 0 (mRet (mAndV (mIsi .int (mVar 0)) (mNotV (mIsi .bl (mVar 0))))) := by
  intro cdv A outer s H E hg hr
  have hu := hr.units
  have hu1 := hu_of hr
  have ndN : (BCx P w K mg base ["value"] "is_integer" sis_integer (ad 0) cdv A outer s H E).N.Nodup := by show (["value"] : List Str).Nodup; decide +kernel
  exact jb_one (js_ret (je_and (je_isi T.n_isinstance T.n_int (by decide +kernel) (by decide) (jv 0)) (je_one (je_not (je_isi T.n_isinstance T.n_bool (by decide +kernel) (by decide) (jv 0))))))
theorem ok_is_integer (T : Txt K mg ad) : FnG P w K mg base 1 (ad 0) 1 [] mis_integer := T.d_is_integer.fn.elim fun _ F => fnG F scis_integer rfl rfl (fun _ _ _ _ _ _ us hl => match us, hl with | [_], _ => rfl) (bis_integer T)
theorem scis_tuple_of : FnScope ["value", "count"] ["value", "count"] (defScope sis_tuple_of) := ⟨rfl, rfl, rfl, by decide +kernel, rfl, by decide +kernel, by decide +kernel⟩
theorem bis_tuple_of (T : Txt K mg ad) : BodyOk P w K mg base ["value", "count"] "is_tuple_of" sis_tuple_of (ad 2) 0 (mRet (mAndV (mIsi .tup (mVar 0)) (mOp fEq (mApp fLen (mCons (mVar 0) (mNil))) (mVar 1)))) := by
  intro cdv A outer s H E hg hr
  have hu := hr.units
  have hu1 := hu_of hr
  have ndN : (BCx P w K mg base ["value", "count"] "is_tuple_of" sis_tuple_of (ad 2) cdv A outer s H E).N.Nodup := by show (["value", "count"] : List Str).Nodup; decide +kernel
  exact jb_one (js_ret (je_and (je_isi T.n_isinstance T.n_tuple (by decide +kernel) (by decide) (jv 0)) (je_one (je_cmp (je_app call_len_seq snd_len T.n_len (by decide +kernel) (ja_cons (jv 0) (ja_nil))) (jv 1) (op_eqM hu) snd_eq))))
theorem ok_is_tuple_of (T : Txt K mg ad) : FnG P w K mg base 1 (ad 2) 2 [] mis_tuple_of := T.d_is_tuple_of.fn.elim fun _ F => fnG F scis_tuple_of rfl rfl (fun _ _ _ _ _ _ us hl => match us, hl with | [_, _], _ => rfl) (bis_tuple_of T)
theorem sc_joined : FnScope ["labels", "kept", "dropped", "label"] ["labels", "kept", "dropped"] (defScope s_joined) := ⟨rfl, rfl, rfl, by decide +kernel, rfl, by decide +kernel, by decide +kernel⟩
theorem b_joined (T : Txt K mg ad) : BodyOk P w K mg base ["labels", "kept", "dropped", "label"] "_joined" s_joined (ad 9) 0 (mRet (mLc (mWk (mVar 0)) (.nm 3) [3] (mYes) (mIf (mT (mOp fEq (mVar 3) (mVar 2))) (mVar 1) (mVar 3)))) := by
  intro cdv A outer s H E hg hr
  have hu := hr.units
  have hu1 := hu_of hr
  have ndN : (BCx P w K mg base ["labels", "kept", "dropped", "label"] "_joined" s_joined (ad 9) cdv A outer s H E).N.Nodup := by show (["labels", "kept", "dropped", "label"] : List Str).Nodup; decide +kernel
  exact jb_one (js_ret (je_lc (own := [("label", 3)]) rfl ndN (ji_seq (jv 0)) (blk_mk (by kernel_rfl)) (by decide) (fun _ _ _ _ _ => pn 3 ndN) (fun _ _ _ _ _ => jc_nil) (fun _ _ _ _ _ => je_if (jt_cmp (jv 3) (jv 2) (op_eqM hu) snd_eq) (jv 1) (jv 3))))
theorem ok__joined (T : Txt K mg ad) : FnG P w K mg base 1 (ad 9) 3 [] m_joined := T.d__joined.fn.elim fun _ F => fnG F sc_joined rfl rfl (fun _ _ _ _ _ _ us hl => match us, hl with | [_, _, _], _ => rfl) (b_joined T)
theorem sc_integer : FnScope ["word", "value"] ["word"] (defScope s_integer) := ⟨rfl, rfl, rfl, by decide +kernel, rfl, by decide +kernel, by decide +kernel⟩
theorem b_integer (T : Txt K mg ad) : BodyOk P w K mg base ["word", "value"] "_integer" s_integer (ad 13) 0 (mSeq (mIte (mOr (mT (mOp fGt (mApp fLenS (mCons (mVar 0) (mNil))) (mC (.int (12))))) (mNot (mT (mStr1 fIsDec (mStr2 fRmPre (mVar 0) (mC (.str "-"))))))) (mRet (mC .non)) (mNext))
    (mSeq (mSet 1 (mApp fIntS (mCons (mVar 0) (mNil))))
    (mSeq (mIte (mT (mOp fNe (mApp fStrI (mCons (mVar 1) (mNil))) (mVar 0))) (mRet (mC .non)) (mNext))
    (mRet (mVar 1))))) := by
  intro cdv A outer s H E hg hr
  have hu := hr.units
  have hu1 := hu_of hr
  have ndN : (BCx P w K mg base ["word", "value"] "_integer" s_integer (ad 13) cdv A outer s H E).N.Nodup := by show (["word", "value"] : List Str).Nodup; decide +kernel
  obtain ⟨t_MOST_SIGNS, g_MOST_SIGNS⟩ := T.g_MOST_SIGNS
  exact jb_cons (js_if (JW.jt (jw_or (jt_cmp (je_app call_len_str snd_lenS T.n_len (by decide +kernel) (ja_cons (jv 0) (ja_nil))) (je_gint g_MOST_SIGNS) op_gt snd_B0) (jw_or1 (jt_not (jt_val (je_isDec (je_rmPre (jv 0) (je_str)))))))) (jb_one (js_ret (je_non))) (jb_nil))
    (jb_cons (jset 1 (je_appT call_int_str snd_intS T.n_int (by decide +kernel) (ja_cons (jv 0) (ja_nil))) ndN)
    (jb_cons (js_if (jt_cmp (je_appT call_str_int snd_strI T.n_str (by decide +kernel) (ja_cons (jv 1) (ja_nil))) (jv 0) (op_neM hu) snd_ne) (jb_one (js_ret (je_non))) (jb_nil))
    (jb_one (js_ret (jv 1)))))
theorem ok__integer (T : Txt K mg ad) : FnG P w K mg base 1 (ad 13) 1 [] m_integer := T.d__integer.fn.elim fun _ F => fnG F sc_integer rfl rfl (fun _ _ _ _ _ _ us hl => match us, hl with | [_], _ => rfl) (b_integer T)
theorem sc_law_begun : FnScope ["script"] ["script"] (defScope s_law_begun) := ⟨rfl, rfl, rfl, by decide +kernel, rfl, by decide +kernel, by decide +kernel⟩
theorem b_law_begun (T : Txt K mg ad) : BodyOk P w K mg base ["script"] "_law_begun" s_law_begun (ad 14) 0 (mRet (mDisp [(mC (.str "script"), mVar 0), (mC (.str "at"), mC (.int 0)), (mC (.str "left"), mC (.int 0))])) := by
  intro cdv A outer s H E hg hr
  have hu := hr.units
  have hu1 := hu_of hr
  have ndN : (BCx P w K mg base ["script"] "_law_begun" s_law_begun (ad 14) cdv A outer s H E).N.Nodup := by show (["script"] : List Str).Nodup; decide +kernel
  exact jb_one (js_ret (je_disp (jp_cons (je_str) (jv 0) (jp_cons (je_str) (je_int) (jp_cons (je_str) (je_int) (jp_nil))))))
theorem ok__law_begun (T : Txt K mg ad) : FnG P w K mg base 1 (ad 14) 1 [] m_law_begun := T.d__law_begun.fn.elim fun _ F => fnG F sc_law_begun rfl rfl (fun _ _ _ _ _ _ us hl => match us, hl with | [_], _ => rfl) (b_law_begun T)
theorem sc_law_next : FnScope ["m", "total", "k", "cell", "mixed", "found"] ["m", "total"] (defScope s_law_next) := ⟨rfl, rfl, rfl, by decide +kernel, rfl, by decide +kernel, by decide +kernel⟩
theorem b_law_next (T : Txt K mg ad) : BodyOk P w K mg base ["m", "total", "k", "cell", "mixed", "found"] "_law_next" s_law_next (ad 15) 0 (mSeq (mIte (mT (mOp fGt (mOp fDGet (mVar 0) (mC (.str "left"))) (mC (.int 0)))) (mSeq (mSet 5 (mOp fMod (mOp fDGet (mVar 0) (mC (.str "left"))) (mVar 1)))
    (mSeq (mDPut (mVar 0) (mC (.str "left")) (mOp fDiv (mOp fDGet (mVar 0) (mC (.str "left"))) (mVar 1)))
    (mRet (mVar 5)))) (mNext))
    (mSeq (mSet 2 (mOp fDGet (mVar 0) (mC (.str "at"))))
    (mSeq (mDPut (mVar 0) (mC (.str "at")) (mOp fAdd (mVar 2) (mC (.int 1))))
    (mSeq (mSet 3 (mIf (mT (mOp fNe (mOp fDGet (mVar 0) (mC (.str "script"))) (mLst (mNil)))) (mOp fIx (mOp fDGet (mVar 0) (mC (.str "script"))) (mOp fMod (mVar 2) (mApp fLen (mCons (mOp fDGet (mVar 0) (mC (.str "script"))) (mNil))))) (mC (.int 0))))
    (mSeq (mIte (mAnd (mT (mOp fGe (mVar 3) (mOp fPow (mC (.int 10)) (mC (.int 18))))) (mT (mOp fLt (mVar 2) (mApp fLen (mCons (mOp fDGet (mVar 0) (mC (.str "script"))) (mNil)))))) (mSeq (mDPut (mVar 0) (mC (.str "left")) (mOp fDiv (mVar 3) (mVar 1)))
    (mRet (mOp fMod (mVar 3) (mVar 1)))) (mNext))
    (mSeq (mSet 4 (mOp fAdd (mOp fMul (mOp fMod (mVar 3) (mC (.int 1000003))) (mC (.int 48271))) (mOp fMod (mOp fDiv (mVar 3) (mC (.int 1000003))) (mC (.int 1000003)))))
    (mSeq (mSet 4 (mOp fMod (mOp fAdd (mOp fAdd (mOp fAdd (mVar 4) (mOp fMul (mOp fMul (mC (.int 7919)) (mVar 2)) (mVar 2))) (mOp fMul (mC (.int 104729)) (mVar 2))) (mC (.int 59))) (mC (.int 2147483647))))
    (mRet (mOp fMod (mOp fDiv (mOp fMod (mOp fMul (mOp fMod (mOp fMul (mVar 4) (mVar 4)) (mC (.int 2147483629))) (mC (.int 69621))) (mC (.int 2147483587))) (mC (.int 7))) (mVar 1)))))))))) := by
  intro cdv A outer s H E hg hr
  have hu := hr.units
  have hu1 := hu_of hr
  have ndN : (BCx P w K mg base ["m", "total", "k", "cell", "mixed", "found"] "_law_next" s_law_next (ad 15) cdv A outer s H E).N.Nodup := by show (["m", "total", "k", "cell", "mixed", "found"] : List Str).Nodup; decide +kernel
  exact jb_cons (js_if (jt_cmp (je_dget hu1 (jv 0) (je_str)) (je_int) op_gt snd_B0) (jb_cons (jset 5 (je_op (je_dget hu1 (jv 0) (je_str)) (jv 1) op_modN snd_int) ndN)
    (jb_cons (js_dput hu1 (jv 0) (je_str) (je_op (je_dget hu1 (jv 0) (je_str)) (jv 1) op_fdivN snd_int))
    (jb_one (js_ret (jv 5))))) (jb_nil))
    (jb_cons (jset 2 (je_dget hu1 (jv 0) (je_str)) ndN)
    (jb_cons (js_dput hu1 (jv 0) (je_str) (je_op (jv 2) (je_int) op_addM snd_add))
    (jb_cons (jset 3 (je_if (jt_cmp (je_dget hu1 (jv 0) (je_str)) (je_lst (ja_nil)) (op_neM hu) snd_ne) (je_ix (je_dget hu1 (jv 0) (je_str)) (je_op (jv 2) (je_app call_len_seq snd_len T.n_len (by decide +kernel) (ja_cons (je_dget hu1 (jv 0) (je_str)) (ja_nil))) op_modN snd_int)) (je_int)) ndN)
    (jb_cons (js_if (JW.jt (jw_and (jt_cmp (jv 3) (je_op (je_int) (je_int) op_pow snd_int) op_ge snd_B0) (jw_and1 (jt_cmp (jv 2) (je_app call_len_seq snd_len T.n_len (by decide +kernel) (ja_cons (je_dget hu1 (jv 0) (je_str)) (ja_nil))) op_lt snd_B0)))) (jb_cons (js_dput hu1 (jv 0) (je_str) (je_op (jv 3) (jv 1) op_fdivN snd_int))
    (jb_one (js_ret (je_op (jv 3) (jv 1) op_modN snd_int)))) (jb_nil))
    (jb_cons (jset 4 (je_op (je_op (je_op (jv 3) (je_int) op_modN snd_int) (je_int) op_mulM snd_mul) (je_op (je_op (jv 3) (je_int) op_fdivN snd_int) (je_int) op_modN snd_int) op_addM snd_add) ndN)
    (jb_cons (jset 4 (je_op (je_op (je_op (je_op (jv 4) (je_op (je_op (je_int) (jv 2) op_mulM snd_mul) (jv 2) op_mulM snd_mul) op_addM snd_add) (je_op (je_int) (jv 2) op_mulM snd_mul) op_addM snd_add) (je_int) op_addM snd_add) (je_int) op_modN snd_int) ndN)
    (jb_one (js_ret (je_op (je_op (je_op (je_op (je_op (je_op (jv 4) (jv 4) op_mulM snd_mul) (je_int) op_modN snd_int) (je_int) op_mulM snd_mul) (je_int) op_modN snd_int) (je_int) op_fdivN snd_int) (jv 1) op_modN snd_int)))))))))
theorem ok__law_next (T : Txt K mg ad) : FnG P w K mg base 1 (ad 15) 2 [] (orcF m_law_next) := T.d__law_next.fn.elim fun _ F => (fnG F sc_law_next rfl rfl (fun _ _ _ _ _ _ us hl => match us, hl with | [_, _], _ => rfl) (b_law_next T)).orc
theorem sc_law_text : FnScope ["plan", "rows", "wall", "coupling", "k"] ["plan"] (defScope s_law_text) := ⟨rfl, rfl, rfl, by decide +kernel, rfl, by decide +kernel, by decide +kernel⟩
theorem b_law_text (T : Txt K mg ad) : BodyOk P w K mg base ["plan", "rows", "wall", "coupling", "k"] "_law_text" s_law_text (ad 19) 0 (mSeq (mSet 1 (mLc (mWk (mOp fIx (mVar 0) (mC (.int 0)))) (.nm 2) [2] (mYes) (mOp fAdd (mC (.str "wagon ")) (mStr2 fJoin (mC (.str " ")) (mLc (mWk (mVar 2)) (.nm 4) [4] (mYes) (mApp fStrI (mCons (mVar 4) (mNil))))))))
    (mSeq (mSet 1 (mOp fAdd (mVar 1) (mLc (mWk (mOp fIx (mVar 0) (mC (.int 1)))) (.nm 3) [3] (mYes) (mOp fAdd (mC (.str "coupling ")) (mStr2 fJoin (mC (.str " ")) (mLc (mWk (mVar 3)) (.nm 4) [4] (mYes) (mApp fStrI (mCons (mVar 4) (mNil)))))))))
    (mRet (mStr2 fJoin (mC (.str "\n")) (mVar 1))))) := by
  intro cdv A outer s H E hg hr
  have hu := hr.units
  have hu1 := hu_of hr
  have ndN : (BCx P w K mg base ["plan", "rows", "wall", "coupling", "k"] "_law_text" s_law_text (ad 19) cdv A outer s H E).N.Nodup := by show (["plan", "rows", "wall", "coupling", "k"] : List Str).Nodup; decide +kernel
  exact jb_cons (js_setLc (own := [("wall", 2)]) rfl ndN (i := 1) rfl rfl (by rfl) (ji_seq (je_ix (jv 0) (je_int))) (blk_mk (by kernel_rfl)) (by decide) (fun _ _ _ _ _ => pn 2 ndN) (fun _ _ _ _ _ => jc_nil) (fun _ _ _ _ _ => je_op (je_str) (je_join (je_str) (je_lc (own := [("k", 4)]) rfl ndN (ji_seq (jv 2)) (blk_mk (by kernel_rfl)) (by decide) (fun _ _ _ _ _ => pn 4 ndN) (fun _ _ _ _ _ => jc_nil) (fun _ _ _ _ _ => je_appT call_str_int snd_strI T.n_str (by decide +kernel) (ja_cons (jv 4) (ja_nil))))) op_addM snd_add))
    (jb_cons (jset 1 (je_op (jv 1) (je_lc (own := [("coupling", 3)]) rfl ndN (ji_seq (je_ix (jv 0) (je_int))) (blk_mk (by kernel_rfl)) (by decide) (fun _ _ _ _ _ => pn 3 ndN) (fun _ _ _ _ _ => jc_nil) (fun _ _ _ _ _ => je_op (je_str) (je_join (je_str) (je_lc (own := [("k", 4)]) rfl ndN (ji_seq (jv 3)) (blk_mk (by kernel_rfl)) (by decide) (fun _ _ _ _ _ => pn 4 ndN) (fun _ _ _ _ _ => jc_nil) (fun _ _ _ _ _ => je_appT call_str_int snd_strI T.n_str (by decide +kernel) (ja_cons (jv 4) (ja_nil))))) op_addM snd_add)) op_addM snd_add) ndN)
    (jb_one (js_ret (je_join (je_str) (jv 1)))))
theorem ok__law_text (T : Txt K mg ad) : FnG P w K mg base 1 (ad 19) 1 [] m_law_text := T.d__law_text.fn.elim fun _ F => fnG F sc_law_text rfl rfl (fun _ _ _ _ _ _ us hl => match us, hl with | [_], _ => rfl) (b_law_text T)
theorem sc_law_read : FnScope ["told", "row", "walls", "couplings", "values", "word"] ["told"] (defScope s_law_read) := ⟨rfl, rfl, rfl, by decide +kernel, rfl, by decide +kernel, by decide +kernel⟩
theorem b_law_read (T : Txt K mg ad) : BodyOk P w K mg base ["told", "row", "walls", "couplings", "values", "word"] "_law_read" s_law_read (ad 20) 0 (mSeq (mPar 2 3 (mCons (mNew (mNil)) (mCons (mNew (mNil)) (mNil))))
    (mSeq (mFor (mWk (mStr2 fSplit (mVar 0) (mC (.str "\n")))) (gN 1) (mSeq (mSet 4 (mApp fTuple (mCons (mLc (mWk (mSlice (mStr2 fSplit (mVar 1) (mC (.str " "))) (mP (mC (.int 1))) (mNoP))) (.nm 5) [5] (mYes) (mApp fIntS (mCons (mVar 5) (mNil)))) (mNil))))
    (mIte (mT (mOp fEq (mCutS (mVar 1) (mNoP) (mP (mC (.int 6)))) (mC (.str "wagon ")))) (mDrop (mMeth gAppend (mVar 2) (mCons (mVar 4) (mNil)))) (mDrop (mMeth gAppend (mVar 3) (mCons (mVar 4) (mNil)))))))
    (mRet (mTup (mCons (mApp fTuple (mCons (mVar 2) (mNil))) (mCons (mApp fTuple (mCons (mVar 3) (mNil))) (mNil))))))) := by
  intro cdv A outer s H E hg hr
  have hu := hr.units
  have hu1 := hu_of hr
  have ndN : (BCx P w K mg base ["told", "row", "walls", "couplings", "values", "word"] "_law_read" s_law_read (ad 20) cdv A outer s H E).N.Nodup := by show (["told", "row", "walls", "couplings", "values", "word"] : List Str).Nodup; decide +kernel
  exact jb_cons (js_par rfl ndN (i := 2) (j := 3) rfl rfl (by decide) rfl rfl (by rfl) (ja_cons (je_new (ja_nil)) (ja_cons (je_new (ja_nil)) (ja_nil))))
    (jb_cons (js_for (passes_of rfl) rfl (ji_seq (je_split (jv 0) (je_str))) (jn 1 ndN) (jb_cons (jset 4 (je_appT call_tuple_of snd_tuple T.n_tuple (by decide +kernel) (ja_cons (je_lc (own := [("word", 5)]) rfl ndN (ji_seq (je_slice (je_split (jv 1) (je_str)) (jo_some (je_int)) (jo_none))) (blk_mk (by kernel_rfl)) (by decide) (fun _ _ _ _ _ => pn 5 ndN) (fun _ _ _ _ _ => jc_nil) (fun _ _ _ _ _ => je_appT call_int_str snd_intS T.n_int (by decide +kernel) (ja_cons (jv 5) (ja_nil)))) (ja_nil))) ndN)
    (jb_one (js_if (jt_cmp (je_cutS (jv 1) (jo_none) (jo_some (je_int))) (je_str) (op_eqM hu) snd_eq) (jb_one (js_expr (je_append (jv 2) (ja_cons (jv 4) (ja_nil))))) (jb_one (js_expr (je_append (jv 3) (ja_cons (jv 4) (ja_nil)))))))))
    (jb_one (js_ret (je_tup (ja_cons (je_appT call_tuple_of snd_tuple T.n_tuple (by decide +kernel) (ja_cons (jv 2) (ja_nil))) (ja_cons (je_appT call_tuple_of snd_tuple T.n_tuple (by decide +kernel) (ja_cons (jv 3) (ja_nil))) (ja_nil)))))))
theorem ok__law_read (T : Txt K mg ad) : FnG P w K mg base 1 (ad 20) 1 [] m_law_read := T.d__law_read.fn.elim fun _ F => fnG F sc_law_read rfl rfl (fun _ _ _ _ _ _ us hl => match us, hl with | [_], _ => rfl) (b_law_read T)
theorem scis_integer_from : FnScope ["value", "low", "high"] ["value", "low", "high"] (defScope sis_integer_from) := ⟨rfl, rfl, rfl, by decide +kernel, rfl, by decide +kernel, by decide +kernel⟩
theorem bis_integer_from (T : Txt K mg ad) : BodyOk P w K mg base ["value", "low", "high"] "is_integer_from" sis_integer_from (ad 1) 1 (mRet (mAndV (mCall 1 mis_integer (mCons (mVar 0) (mNil))) (mChain fLeM fLeM (mVar 1) (mVar 0) (mVar 2)))) := by
  intro cdv A outer s H E hg hr
  have hu := hr.units
  have hu1 := hu_of hr
  have ndN : (BCx P w K mg base ["value", "low", "high"] "is_integer_from" sis_integer_from (ad 1) cdv A outer s H E).N.Nodup := by show (["value", "low", "high"] : List Str).Nodup; decide +kernel
  exact jb_one (js_ret (je_and (je_call ((ok_is_integer T).up (by omega)) hg hr T.d_is_integer.gl T.d_is_integer.kp (ja_cons (jv 0) (ja_nil))) (je_one (je_chain (jv 1) (jv 0) (jv 2) (op_leM hu) snd_le (op_leM hu) snd_le))))
theorem ok_is_integer_from (T : Txt K mg ad) : FnG P w K mg base 2 (ad 1) 3 [] mis_integer_from := T.d_is_integer_from.fn.elim fun _ F => fnG F scis_integer_from rfl rfl (fun _ _ _ _ _ _ us hl => match us, hl with | [_, _, _], _ => rfl) (bis_integer_from T)
theorem sc_with_line : FnScope ["yard", "line", "item", "walls", "couplings", "word", "others", "other"] ["yard", "line"] (defScope s_with_line) := ⟨rfl, rfl, rfl, by decide +kernel, rfl, by decide +kernel, by decide +kernel⟩
theorem b_with_line (T : Txt K mg ad) : BodyOk P w K mg base ["yard", "line", "item", "walls", "couplings", "word", "others", "other"] "_with_line" s_with_line (ad 12) 1 (mSeq (mAsg (mVar 0) (gQ 2 (gCo (gN 3) (gCo (gN 4) (gNi)))))
    (mSeq (mAsg (mStr2 fSplit (mVar 1) (mC (.str " "))) (gSt (gCo (gN 5) (gCo (gN 6) (gNi)))))
    (mSeq (mSet 2 (mApp fTuple (mCons (mLc (mWk (mVar 6)) (.nm 7) [7] (mYes) (mCall 1 m_integer (mCons (mVar 7) (mNil)))) (mNil))))
    (mSeq (mIte (mAnd (mT (mOp fEq (mVar 5) (mC (.str "wagon")))) (mNot (mTruT (mVar 4)))) (mRet (mTup (mCons (mOp fAdd (mVar 3) (mTup (mCons (mVar 2) (mNil)))) (mCons (mVar 4) (mNil))))) (mNext))
    (mSeq (mIte (mT (mOp fEq (mVar 5) (mC (.str "coupling")))) (mRet (mTup (mCons (mVar 3) (mCons (mOp fAdd (mVar 4) (mTup (mCons (mVar 2) (mNil)))) (mNil))))) (mNext))
    (mRet (mC .non))))))) := by
  intro cdv A outer s H E hg hr
  have hu := hr.units
  have hu1 := hu_of hr
  have ndN : (BCx P w K mg base ["yard", "line", "item", "walls", "couplings", "word", "others", "other"] "_with_line" s_with_line (ad 12) cdv A outer s H E).N.Nodup := by show (["yard", "line", "item", "walls", "couplings", "word", "others", "other"] : List Str).Nodup; decide +kernel
  exact jb_cons (js_asg (jv 0) (jg_seq rfl (jgs_cons (jn 3 ndN) (jgs_cons (jn 4 ndN) (jgs_nil)))))
    (jb_cons (js_asg (je_split (jv 1) (je_str)) (jg_star1 rfl (jgs_cons (jn 5 ndN) (jgs_cons (jn 6 ndN) (jgs_nil)))))
    (jb_cons (jset 2 (je_appT call_tuple_of snd_tuple T.n_tuple (by decide +kernel) (ja_cons (je_lc (own := [("other", 7)]) rfl ndN (ji_seq (jv 6)) (blk_mk (by kernel_rfl)) (by decide) (fun _ _ _ _ _ => pn 7 ndN) (fun _ _ _ _ _ => jc_nil) (fun _ _ _ _ _ => je_call ((ok__integer T).up (by omega)) hg hr T.d__integer.gl T.d__integer.kp (ja_cons (jv 7) (ja_nil)))) (ja_nil))) ndN)
    (jb_cons (js_if (JW.jt (jw_and (jt_cmp (jv 5) (je_str) (op_eqM hu) snd_eq) (jw_and1 (jt_not (jt_truT (jv 4)))))) (jb_one (js_ret (je_tup (ja_cons (je_op (jv 3) (je_tup (ja_cons (jv 2) (ja_nil))) op_addM snd_add) (ja_cons (jv 4) (ja_nil)))))) (jb_nil))
    (jb_cons (js_if (jt_cmp (jv 5) (je_str) (op_eqM hu) snd_eq) (jb_one (js_ret (je_tup (ja_cons (jv 3) (ja_cons (je_op (jv 4) (je_tup (ja_cons (jv 2) (ja_nil))) op_addM snd_add) (ja_nil)))))) (jb_nil))
    (jb_one (js_ret (je_non)))))))
theorem ok__with_line (T : Txt K mg ad) : FnG P w K mg base 2 (ad 12) 2 [] m_with_line := T.d__with_line.fn.elim fun _ F => fnG F sc_with_line rfl rfl (fun _ _ _ _ _ _ us hl => match us, hl with | [_, _], _ => rfl) (b_with_line T)
theorem sc_law_of : FnScope ["m", "items"] ["m", "items"] (defScope s_law_of) := ⟨rfl, rfl, rfl, by decide +kernel, rfl, by decide +kernel, by decide +kernel⟩
theorem b_law_of (T : Txt K mg ad) : BodyOk P w K mg base ["m", "items"] "_law_of" s_law_of (ad 16) 1 (mRet (mOp fIx (mVar 1) (mCall 2 (orcF m_law_next) (mCons (mVar 0) (mCons (mApp fLen (mCons (mVar 1) (mNil))) (mNil)))))) := by
  intro cdv A outer s H E hg hr
  have hu := hr.units
  have hu1 := hu_of hr
  have ndN : (BCx P w K mg base ["m", "items"] "_law_of" s_law_of (ad 16) cdv A outer s H E).N.Nodup := by show (["m", "items"] : List Str).Nodup; decide +kernel
  exact jb_one (js_ret (je_ix (jv 1) (je_call ((ok__law_next T).up (by omega)) hg hr T.d__law_next.gl T.d__law_next.kp (ja_cons (jv 0) (ja_cons (je_app call_len_seq snd_len T.n_len (by decide +kernel) (ja_cons (jv 1) (ja_nil))) (ja_nil))))))
theorem ok__law_of (T : Txt K mg ad) : FnG P w K mg base 2 (ad 16) 2 [] m_law_of := T.d__law_of.fn.elim fun _ F => fnG F sc_law_of rfl rfl (fun _ _ _ _ _ _ us hl => match us, hl with | [_, _], _ => rfl) (b_law_of T)
theorem sc_law_shuffled : FnScope ["m", "items", "left", "found"] ["m", "items"] (defScope s_law_shuffled) := ⟨rfl, rfl, rfl, by decide +kernel, rfl, by decide +kernel, by decide +kernel⟩
theorem b_law_shuffled (T : Txt K mg ad) : BodyOk P w K mg base ["m", "items", "left", "found"] "_law_shuffled" s_law_shuffled (ad 17) 1 (mSeq (mPar 2 3 (mCons (mListN (mCons (mVar 1) (mNil))) (mCons (mNew (mNil)) (mNil))))
    (mSeq (mWhile (mT (mOp fNe (mVar 2) (mLst (mNil)))) (mDrop (mMeth gAppend (mVar 3) (mCons (mMeth gPopAt (mVar 2) (mCons (mCall 2 (orcF m_law_next) (mCons (mVar 0) (mCons (mApp fLen (mCons (mVar 2) (mNil))) (mNil)))) (mNil))) (mNil)))))
    (mRet (mFrz (mVar 3))))) := by
  intro cdv A outer s H E hg hr
  have hu := hr.units
  have hu1 := hu_of hr
  have ndN : (BCx P w K mg base ["m", "items", "left", "found"] "_law_shuffled" s_law_shuffled (ad 17) cdv A outer s H E).N.Nodup := by show (["m", "items", "left", "found"] : List Str).Nodup; decide +kernel
  exact jb_cons (js_par rfl ndN (i := 2) (j := 3) rfl rfl (by decide) rfl rfl (by rfl) (ja_cons (je_listN T.n_list (ja_cons (jv 1) (ja_nil))) (ja_cons (je_new (ja_nil)) (ja_nil))))
    (jb_cons (js_while (passes_of rfl) (jt_cmp (jv 2) (je_lst (ja_nil)) (op_neM hu) snd_ne) (jb_one (js_expr (je_append (jv 3) (ja_cons (je_popAt (jv 2) (ja_cons (je_call ((ok__law_next T).up (by omega)) hg hr T.d__law_next.gl T.d__law_next.kp (ja_cons (jv 0) (ja_cons (je_app call_len_seq snd_len T.n_len (by decide +kernel) (ja_cons (jv 2) (ja_nil))) (ja_nil)))) (ja_nil))) (ja_nil))))))
    (jb_one (js_ret (je_frz (jv 3)))))
theorem ok__law_shuffled (T : Txt K mg ad) : FnG P w K mg base 2 (ad 17) 2 [] m_law_shuffled := T.d__law_shuffled.fn.elim fun _ F => fnG F sc_law_shuffled rfl rfl (fun _ _ _ _ _ _ us hl => match us, hl with | [_, _], _ => rfl) (b_law_shuffled T)
theorem sc_is_pair_of_places : FnScope ["value", "item"] ["value"] (defScope s_is_pair_of_places) := ⟨rfl, rfl, rfl, by decide +kernel, rfl, by decide +kernel, by decide +kernel⟩
theorem b_is_pair_of_places (T : Txt K mg ad) : BodyOk P w K mg base ["value", "item"] "_is_pair_of_places" s_is_pair_of_places (ad 6) 2 (mSeq (mIte (mNot (mT (mCall 2 mis_tuple_of (mCons (mVar 0) (mCons (mC (.int 2)) (mNil)))))) (mRet (mC (.bl false))) (mNext))
    (mSeq (mFor (mWk (mVar 0)) (gN 1) (mIte (mNot (mT (mCall 3 mis_integer_from (mCons (mVar 1) (mCons (mUn fNeg (mC (.int (1000000000)))) (mCons (mC (.int (1000000000))) (mNil))))))) (mRet (mC (.bl false))) (mNext)))
    (mRet (mOp fLeM (mOp fIx (mVar 0) (mC (.int 0))) (mOp fIx (mVar 0) (mC (.int 1))))))) := by
  intro cdv A outer s H E hg hr
  have hu := hr.units
  have hu1 := hu_of hr
  have ndN : (BCx P w K mg base ["value", "item"] "_is_pair_of_places" s_is_pair_of_places (ad 6) cdv A outer s H E).N.Nodup := by show (["value", "item"] : List Str).Nodup; decide +kernel
  obtain ⟨t_MOST_PLACE, g_MOST_PLACE⟩ := T.g_MOST_PLACE
  exact jb_cons (js_if (jt_not (jt_val (je_call ((ok_is_tuple_of T).up (by omega)) hg hr T.d_is_tuple_of.gl T.d_is_tuple_of.kp (ja_cons (jv 0) (ja_cons (je_int) (ja_nil)))))) (jb_one (js_ret (je_bl))) (jb_nil))
    (jb_cons (js_for (passes_of rfl) rfl (ji_seq (jv 0)) (jn 1 ndN) (jb_one (js_if (jt_not (jt_val (je_call ((ok_is_integer_from T).up (by omega)) hg hr T.d_is_integer_from.gl T.d_is_integer_from.kp (ja_cons (jv 1) (ja_cons (je_un (je_gint g_MOST_PLACE) un_neg snd_neg) (ja_cons (je_gint g_MOST_PLACE) (ja_nil))))))) (jb_one (js_ret (je_bl))) (jb_nil))))
    (jb_one (js_ret (je_cmp (je_ix (jv 0) (je_int)) (je_ix (jv 0) (je_int)) (op_leM hu) snd_le))))
theorem ok__is_pair_of_places (T : Txt K mg ad) : FnG P w K mg base 3 (ad 6) 1 [] m_is_pair_of_places := T.d__is_pair_of_places.fn.elim fun _ F => fnG F sc_is_pair_of_places rfl rfl (fun _ _ _ _ _ _ us hl => match us, hl with | [_], _ => rfl) (b_is_pair_of_places T)
theorem sc_is_coupling : FnScope ["value", "count", "wagon", "bound", "i", "j", "least", "greatest"] ["value", "count"] (defScope s_is_coupling) := ⟨rfl, rfl, rfl, by decide +kernel, rfl, by decide +kernel, by decide +kernel⟩
theorem b_is_coupling (T : Txt K mg ad) : BodyOk P w K mg base ["value", "count", "wagon", "bound", "i", "j", "least", "greatest"] "_is_coupling" s_is_coupling (ad 8) 2 (mSeq (mIte (mNot (mT (mCall 2 mis_tuple_of (mCons (mVar 0) (mCons (mC (.int 4)) (mNil)))))) (mRet (mC (.bl false))) (mNext))
    (mSeq (mAsg (mVar 0) (gQ 4 (gCo (gN 4) (gCo (gN 5) (gCo (gN 6) (gCo (gN 7) (gNi)))))))
    (mSeq (mFor (mWk (mTup (mCons (mVar 4) (mCons (mVar 5) (mNil))))) (gN 2) (mIte (mNot (mT (mCall 3 mis_integer_from (mCons (mVar 2) (mCons (mC (.int 0)) (mCons (mOp fSub (mVar 1) (mC (.int 1))) (mNil))))))) (mRet (mC (.bl false))) (mNext)))
    (mSeq (mFor (mWk (mTup (mCons (mVar 6) (mCons (mVar 7) (mNil))))) (gN 3) (mIte (mNot (mT (mCall 3 mis_integer_from (mCons (mVar 3) (mCons (mUn fNeg (mC (.int (10000000000)))) (mCons (mC (.int (10000000000))) (mNil))))))) (mRet (mC (.bl false))) (mNext)))
    (mRet (mAndV (mOp fLt (mVar 4) (mVar 5)) (mOp fLt (mVar 6) (mVar 7)))))))) := by
  intro cdv A outer s H E hg hr
  have hu := hr.units
  have hu1 := hu_of hr
  have ndN : (BCx P w K mg base ["value", "count", "wagon", "bound", "i", "j", "least", "greatest"] "_is_coupling" s_is_coupling (ad 8) cdv A outer s H E).N.Nodup := by show (["value", "count", "wagon", "bound", "i", "j", "least", "greatest"] : List Str).Nodup; decide +kernel
  obtain ⟨t_MOST_DIFFERENCE, g_MOST_DIFFERENCE⟩ := T.g_MOST_DIFFERENCE
  exact jb_cons (js_if (jt_not (jt_val (je_call ((ok_is_tuple_of T).up (by omega)) hg hr T.d_is_tuple_of.gl T.d_is_tuple_of.kp (ja_cons (jv 0) (ja_cons (je_int) (ja_nil)))))) (jb_one (js_ret (je_bl))) (jb_nil))
    (jb_cons (js_asg (jv 0) (jg_seq rfl (jgs_cons (jn 4 ndN) (jgs_cons (jn 5 ndN) (jgs_cons (jn 6 ndN) (jgs_cons (jn 7 ndN) (jgs_nil)))))))
    (jb_cons (js_for (passes_of rfl) rfl (ji_seq (je_tup (ja_cons (jv 4) (ja_cons (jv 5) (ja_nil))))) (jn 2 ndN) (jb_one (js_if (jt_not (jt_val (je_call ((ok_is_integer_from T).up (by omega)) hg hr T.d_is_integer_from.gl T.d_is_integer_from.kp (ja_cons (jv 2) (ja_cons (je_int) (ja_cons (je_op (jv 1) (je_int) op_sub snd_I0) (ja_nil))))))) (jb_one (js_ret (je_bl))) (jb_nil))))
    (jb_cons (js_for (passes_of rfl) rfl (ji_seq (je_tup (ja_cons (jv 6) (ja_cons (jv 7) (ja_nil))))) (jn 3 ndN) (jb_one (js_if (jt_not (jt_val (je_call ((ok_is_integer_from T).up (by omega)) hg hr T.d_is_integer_from.gl T.d_is_integer_from.kp (ja_cons (jv 3) (ja_cons (je_un (je_gint g_MOST_DIFFERENCE) un_neg snd_neg) (ja_cons (je_gint g_MOST_DIFFERENCE) (ja_nil))))))) (jb_one (js_ret (je_bl))) (jb_nil))))
    (jb_one (js_ret (je_and (je_cmp (jv 4) (jv 5) op_lt snd_B0) (je_one (je_cmp (jv 6) (jv 7) op_lt snd_B0))))))))
theorem ok__is_coupling (T : Txt K mg ad) : FnG P w K mg base 3 (ad 8) 2 [] m_is_coupling := T.d__is_coupling.fn.elim fun _ F => fnG F sc_is_coupling rfl rfl (fun _ _ _ _ _ _ us hl => match us, hl with | [_, _], _ => rfl) (b_is_coupling T)
theorem sc_law_yard : FnScope ["m", "most", "wide", "many", "base", "spots", "walls", "k", "rows", "found", "v", "last", "spot", "i", "j", "first"] ["m", "most", "wide"] (defScope s_law_yard) := ⟨rfl, rfl, rfl, by decide +kernel, rfl, by decide +kernel, by decide +kernel⟩
theorem b_law_yard (T : Txt K mg ad) : BodyOk P w K mg base ["m", "most", "wide", "many", "base", "spots", "walls", "k", "rows", "found", "v", "last", "spot", "i", "j", "first"] "_law_yard" s_law_yard (ad 18) 2 (mSeq (mSet 3 (mOp fAdd (mC (.int 1)) (mCall 2 (orcF m_law_next) (mCons (mVar 0) (mCons (mVar 1) (mNil))))))
    (mSeq (mSet 4 (mOp fIx (mLst (mCons (mC (.int 0)) (mCons (mC (.int 0)) (mCons (mOp fSub (mOp fPow (mC (.int 10)) (mC (.int 9))) (mOp fMul (mC (.int 4)) (mVar 2))) (mCons (mOp fSub (mOp fMul (mC (.int 4)) (mVar 2)) (mOp fPow (mC (.int 10)) (mC (.int 9)))) (mNil)))))) (mCall 2 (orcF m_law_next) (mCons (mVar 0) (mCons (mC (.int 4)) (mNil))))))
    (mSeq (mSet 5 (mLc (mRg1 (mCons (mVar 3) (mNil))) (.nm 10) [10] (mYes) (mOp fSub (mOp fAdd (mVar 4) (mCall 2 (orcF m_law_next) (mCons (mVar 0) (mCons (mOp fAdd (mOp fMul (mC (.int 2)) (mVar 2)) (mC (.int 1))) (mNil))))) (mVar 2))))
    (mSeq (mSet 6 (mApp fTuple (mCons (mLc (mWk (mVar 5)) (.nm 12) [12] (mYes) (mTup (mCons (mOp fSub (mVar 12) (mCall 2 (orcF m_law_next) (mCons (mVar 0) (mCons (mOp fAdd (mVar 2) (mC (.int 1))) (mNil))))) (mCons (mOp fAdd (mVar 12) (mCall 2 (orcF m_law_next) (mCons (mVar 0) (mCons (mOp fAdd (mVar 2) (mC (.int 1))) (mNil))))) (mNil))))) (mNil))))
    (mSeq (mPar 8 9 (mCons (mCall 2 m_law_shuffled (mCons (mVar 0) (mCons (mListRg (mVar 3)) (mNil)))) (mCons (mNew (mNil)) (mNil))))
    (mSeq (mFor (mRg2 (mCons (mC (.int 1)) (mCons (mVar 3) (mNil)))) (gN 7) (mIte (mT (mOp fGt (mCall 2 (orcF m_law_next) (mCons (mVar 0) (mCons (mC (.int 5)) (mNil)))) (mC (.int 0)))) (mSeq (mAsg (mApp fSorted (mCons (mLst (mCons (mOp fIx (mVar 8) (mVar 7)) (mCons (mOp fIx (mVar 8) (mCall 2 m_law_of (mCons (mVar 0) (mCons (mLst (mCons (mOp fSub (mVar 7) (mC (.int 1))) (mCons (mC (.int 0)) (mCons (mCall 2 (orcF m_law_next) (mCons (mVar 0) (mCons (mVar 7) (mNil)))) (mNil))))) (mNil))))) (mNil)))) (mNil))) (gQ 2 (gCo (gN 13) (gCo (gN 14) (gNi)))))
    (mSeq (mPar 15 11 (mCons (mCall 2 (orcF m_law_next) (mCons (mVar 0) (mCons (mC (.int 3)) (mNil)))) (mCons (mCall 2 (orcF m_law_next) (mCons (mVar 0) (mCons (mC (.int 4)) (mNil)))) (mNil))))
    (mSeq (mSet 11 (mOp fAdd (mVar 11) (mApp fInt1 (mCons (mOp fEq (mOp fAdd (mVar 15) (mVar 11)) (mC (.int 0))) (mNil)))))
    (mDrop (mMeth gAppend (mVar 9) (mCons (mTup (mCons (mVar 13) (mCons (mVar 14) (mCons (mOp fSub (mOp fSub (mOp fIx (mVar 5) (mVar 14)) (mOp fIx (mVar 5) (mVar 13))) (mVar 15)) (mCons (mOp fAdd (mOp fSub (mOp fIx (mVar 5) (mVar 14)) (mOp fIx (mVar 5) (mVar 13))) (mVar 11)) (mNil)))))) (mNil))))))) (mNext)))
    (mRet (mTup (mCons (mTup (mCons (mVar 6) (mCons (mApp fTuple (mCons (mApp fSorted (mCons (mVar 9) (mNil))) (mNil))) (mNil)))) (mCons (mApp fTuple (mCons (mVar 5) (mNil))) (mNil))))))))))) := by
  intro cdv A outer s H E hg hr
  have hu := hr.units
  have hu1 := hu_of hr
  have ndN : (BCx P w K mg base ["m", "most", "wide", "many", "base", "spots", "walls", "k", "rows", "found", "v", "last", "spot", "i", "j", "first"] "_law_yard" s_law_yard (ad 18) cdv A outer s H E).N.Nodup := by show (["m", "most", "wide", "many", "base", "spots", "walls", "k", "rows", "found", "v", "last", "spot", "i", "j", "first"] : List Str).Nodup; decide +kernel
  exact jb_cons (jset 3 (je_op (je_int) (je_call ((ok__law_next T).up (by omega)) hg hr T.d__law_next.gl T.d__law_next.kp (ja_cons (jv 0) (ja_cons (jv 1) (ja_nil)))) op_addM snd_add) ndN)
    (jb_cons (jset 4 (je_ix (je_lst (ja_cons (je_int) (ja_cons (je_int) (ja_cons (je_op (je_op (je_int) (je_int) op_pow snd_int) (je_op (je_int) (jv 2) op_mulM snd_mul) op_sub snd_I0) (ja_cons (je_op (je_op (je_int) (jv 2) op_mulM snd_mul) (je_op (je_int) (je_int) op_pow snd_int) op_sub snd_I0) (ja_nil)))))) (je_call ((ok__law_next T).up (by omega)) hg hr T.d__law_next.gl T.d__law_next.kp (ja_cons (jv 0) (ja_cons (je_int) (ja_nil))))) ndN)
    (jb_cons (js_setLc (own := [("v", 10)]) rfl ndN (i := 5) rfl rfl (by rfl) (ji_rg1 (ja_cons (jv 3) (ja_nil)) T.n_range) (blk_mk (by kernel_rfl)) (by decide) (fun _ _ _ _ _ => pn 10 ndN) (fun _ _ _ _ _ => jc_nil) (fun _ _ _ _ _ => je_op (je_op (jv 4) (je_call ((ok__law_next T).up (by omega)) hg hr T.d__law_next.gl T.d__law_next.kp (ja_cons (jv 0) (ja_cons (je_op (je_op (je_int) (jv 2) op_mulM snd_mul) (je_int) op_addM snd_add) (ja_nil)))) op_addM snd_add) (jv 2) op_sub snd_I0))
    (jb_cons (jset 6 (je_appT call_tuple_of snd_tuple T.n_tuple (by decide +kernel) (ja_cons (je_lc (own := [("spot", 12)]) rfl ndN (ji_seq (jv 5)) (blk_mk (by kernel_rfl)) (by decide) (fun _ _ _ _ _ => pn 12 ndN) (fun _ _ _ _ _ => jc_nil) (fun _ _ _ _ _ => je_tup (ja_cons (je_op (jv 12) (je_call ((ok__law_next T).up (by omega)) hg hr T.d__law_next.gl T.d__law_next.kp (ja_cons (jv 0) (ja_cons (je_op (jv 2) (je_int) op_addM snd_add) (ja_nil)))) op_sub snd_I0) (ja_cons (je_op (jv 12) (je_call ((ok__law_next T).up (by omega)) hg hr T.d__law_next.gl T.d__law_next.kp (ja_cons (jv 0) (ja_cons (je_op (jv 2) (je_int) op_addM snd_add) (ja_nil)))) op_addM snd_add) (ja_nil))))) (ja_nil))) ndN)
    (jb_cons (js_par rfl ndN (i := 8) (j := 9) rfl rfl (by decide) rfl rfl (by rfl) (ja_cons (je_call ((ok__law_shuffled T).up (by omega)) hg hr T.d__law_shuffled.gl T.d__law_shuffled.kp (ja_cons (jv 0) (ja_cons (je_listRg rfl T.n_list T.n_range (jv 3)) (ja_nil)))) (ja_cons (je_new (ja_nil)) (ja_nil))))
    (jb_cons (js_for (passes_of rfl) rfl (ji_rg2 (ja_cons (je_int) (ja_cons (jv 3) (ja_nil))) T.n_range) (jn 7 ndN) (jb_one (js_if (jt_cmp (je_call ((ok__law_next T).up (by omega)) hg hr T.d__law_next.gl T.d__law_next.kp (ja_cons (jv 0) (ja_cons (je_int) (ja_nil)))) (je_int) op_gt snd_B0) (jb_cons (js_asg (je_app (call_sortD hu) snd_sorted T.n_sorted (by decide +kernel) (ja_cons (je_lst (ja_cons (je_ix (jv 8) (jv 7)) (ja_cons (je_ix (jv 8) (je_call ((ok__law_of T).up (by omega)) hg hr T.d__law_of.gl T.d__law_of.kp (ja_cons (jv 0) (ja_cons (je_lst (ja_cons (je_op (jv 7) (je_int) op_sub snd_I0) (ja_cons (je_int) (ja_cons (je_call ((ok__law_next T).up (by omega)) hg hr T.d__law_next.gl T.d__law_next.kp (ja_cons (jv 0) (ja_cons (jv 7) (ja_nil)))) (ja_nil))))) (ja_nil))))) (ja_nil)))) (ja_nil))) (jg_seq rfl (jgs_cons (jn 13 ndN) (jgs_cons (jn 14 ndN) (jgs_nil)))))
    (jb_cons (js_par rfl ndN (i := 15) (j := 11) rfl rfl (by decide) rfl rfl (by rfl) (ja_cons (je_call ((ok__law_next T).up (by omega)) hg hr T.d__law_next.gl T.d__law_next.kp (ja_cons (jv 0) (ja_cons (je_int) (ja_nil)))) (ja_cons (je_call ((ok__law_next T).up (by omega)) hg hr T.d__law_next.gl T.d__law_next.kp (ja_cons (jv 0) (ja_cons (je_int) (ja_nil)))) (ja_nil))))
    (jb_cons (jset 11 (je_op (jv 11) (je_appT call_int1 snd_int1 T.n_int (by decide +kernel) (ja_cons (je_cmp (je_op (jv 15) (jv 11) op_addM snd_add) (je_int) (op_eqM hu) snd_eq) (ja_nil))) op_addM snd_add) ndN)
    (jb_one (js_expr (je_append (jv 9) (ja_cons (je_tup (ja_cons (jv 13) (ja_cons (jv 14) (ja_cons (je_op (je_op (je_ix (jv 5) (jv 14)) (je_ix (jv 5) (jv 13)) op_sub snd_I0) (jv 15) op_sub snd_I0) (ja_cons (je_op (je_op (je_ix (jv 5) (jv 14)) (je_ix (jv 5) (jv 13)) op_sub snd_I0) (jv 11) op_addM snd_add) (ja_nil)))))) (ja_nil)))))))) (jb_nil))))
    (jb_one (js_ret (je_tup (ja_cons (je_tup (ja_cons (jv 6) (ja_cons (je_appT call_tuple_of snd_tuple T.n_tuple (by decide +kernel) (ja_cons (je_app (call_sortD hu) snd_sorted T.n_sorted (by decide +kernel) (ja_cons (jv 9) (ja_nil))) (ja_nil))) (ja_nil)))) (ja_cons (je_appT call_tuple_of snd_tuple T.n_tuple (by decide +kernel) (ja_cons (jv 5) (ja_nil))) (ja_nil)))))))))))
theorem ok__law_yard (T : Txt K mg ad) : FnG P w K mg base 3 (ad 18) 3 [] m_law_yard := T.d__law_yard.fn.elim fun _ F => fnG F sc_law_yard rfl rfl (fun _ _ _ _ _ _ us hl => match us, hl with | [_, _, _], _ => rfl) (b_law_yard T)
theorem sc_check_pairs : FnScope ["walls", "index", "pair"] ["walls"] (defScope s_check_pairs) := ⟨rfl, rfl, rfl, by decide +kernel, rfl, by decide +kernel, by decide +kernel⟩
theorem b_check_pairs (T : Txt K mg ad) : BodyOk P w K mg base ["walls", "index", "pair"] "_check_pairs" s_check_pairs (ad 5) 3 (mSeq (mIte (mOr (mNot (mT (mIsi .tup (mVar 0)))) (mNot (mT (mChain fLeM fLeM (mC (.int 1)) (mApp fLen (mCons (mVar 0) (mNil))) (mC (.int (40))))))) (mNever) (mNext))
    (mFor (mEnum (mCons (mVar 0) (mNil))) (gQ 2 (gCo (gN 1) (gCo (gN 2) (gNi)))) (mIte (mNot (mT (mCall 1 m_is_pair_of_places (mCons (mVar 2) (mNil))))) (mNever) (mNext)))) := by
  intro cdv A outer s H E hg hr
  have hu := hr.units
  have hu1 := hu_of hr
  have ndN : (BCx P w K mg base ["walls", "index", "pair"] "_check_pairs" s_check_pairs (ad 5) cdv A outer s H E).N.Nodup := by show (["walls", "index", "pair"] : List Str).Nodup; decide +kernel
  obtain ⟨t_MOST_WAGONS, g_MOST_WAGONS⟩ := T.g_MOST_WAGONS
  exact jb_cons (js_if (JW.jt (jw_or (jt_not (jt_val (je_isi T.n_isinstance T.n_tuple (by decide +kernel) (by decide) (jv 0)))) (jw_or1 (jt_not (jt_chain (je_int) (je_app call_len_seq snd_len T.n_len (by decide +kernel) (ja_cons (jv 0) (ja_nil))) (je_gint g_MOST_WAGONS) (op_leM hu) snd_le (op_leM hu) snd_le))))) (jb_one (js_never)) (jb_nil))
    (jb_one (js_for (passes_of rfl) rfl (ji_enum (ja_cons (jv 0) (ja_nil)) T.n_enumerate) (jg_seq rfl (jgs_cons (jn 1 ndN) (jgs_cons (jn 2 ndN) (jgs_nil)))) (jb_one (js_if (jt_not (jt_val (je_call ((ok__is_pair_of_places T).up (by omega)) hg hr T.d__is_pair_of_places.gl T.d__is_pair_of_places.kp (ja_cons (jv 2) (ja_nil))))) (jb_one (js_never)) (jb_nil)))))
theorem ok__check_pairs (T : Txt K mg ad) : FnG P w K mg base 4 (ad 5) 1 [] m_check_pairs := T.d__check_pairs.fn.elim fun _ F => fnG F sc_check_pairs rfl rfl (fun _ _ _ _ _ _ us hl => match us, hl with | [_], _ => rfl) (b_check_pairs T)
theorem sc_check_couplings : FnScope ["couplings", "count", "labels", "before", "index", "coupling", "pair", "i", "j"] ["couplings", "count"] (defScope s_check_couplings) := ⟨rfl, rfl, rfl, by decide +kernel, rfl, by decide +kernel, by decide +kernel⟩
theorem b_check_couplings (T : Txt K mg ad) : BodyOk P w K mg base ["couplings", "count", "labels", "before", "index", "coupling", "pair", "i", "j"] "_check_couplings" s_check_couplings (ad 7) 3 (mSeq (mIte (mNot (mT (mIsi .tup (mVar 0)))) (mNever) (mNext))
    (mSeq (mSet 2 (mListRg (mVar 1)))
    (mSeq (mSet 3 (mTup (mNil)))
    (mFor (mEnum (mCons (mVar 0) (mNil))) (gQ 2 (gCo (gN 4) (gCo (gN 5) (gNi)))) (mSeq (mIte (mNot (mT (mCall 2 m_is_coupling (mCons (mVar 5) (mCons (mVar 1) (mNil)))))) (mNever) (mNext))
    (mSeq (mSet 6 (mSlice (mVar 5) (mNoP) (mP (mC (.int 2)))))
    (mSeq (mAsg (mVar 6) (gQ 2 (gCo (gN 7) (gCo (gN 8) (gNi)))))
    (mSeq (mIte (mOr (mT (mOp fLeM (mVar 6) (mVar 3))) (mT (mOp fEq (mOp fIx (mVar 2) (mVar 7)) (mOp fIx (mVar 2) (mVar 8))))) (mNever) (mNext))
    (mSeq (mSet 2 (mCall 3 m_joined (mCons (mVar 2) (mCons (mOp fIx (mVar 2) (mVar 7)) (mCons (mOp fIx (mVar 2) (mVar 8)) (mNil))))))
    (mSet 3 (mVar 6))))))))))) := by
  intro cdv A outer s H E hg hr
  have hu := hr.units
  have hu1 := hu_of hr
  have ndN : (BCx P w K mg base ["couplings", "count", "labels", "before", "index", "coupling", "pair", "i", "j"] "_check_couplings" s_check_couplings (ad 7) cdv A outer s H E).N.Nodup := by show (["couplings", "count", "labels", "before", "index", "coupling", "pair", "i", "j"] : List Str).Nodup; decide +kernel
  exact jb_cons (js_if (jt_not (jt_val (je_isi T.n_isinstance T.n_tuple (by decide +kernel) (by decide) (jv 0)))) (jb_one (js_never)) (jb_nil))
    (jb_cons (jset 2 (je_listRg rfl T.n_list T.n_range (jv 1)) ndN)
    (jb_cons (jset 3 (je_tup (ja_nil)) ndN)
    (jb_one (js_for (passes_of rfl) rfl (ji_enum (ja_cons (jv 0) (ja_nil)) T.n_enumerate) (jg_seq rfl (jgs_cons (jn 4 ndN) (jgs_cons (jn 5 ndN) (jgs_nil)))) (jb_cons (js_if (jt_not (jt_val (je_call ((ok__is_coupling T).up (by omega)) hg hr T.d__is_coupling.gl T.d__is_coupling.kp (ja_cons (jv 5) (ja_cons (jv 1) (ja_nil)))))) (jb_one (js_never)) (jb_nil))
    (jb_cons (jset 6 (je_slice (jv 5) (jo_none) (jo_some (je_int))) ndN)
    (jb_cons (js_asg (jv 6) (jg_seq rfl (jgs_cons (jn 7 ndN) (jgs_cons (jn 8 ndN) (jgs_nil)))))
    (jb_cons (js_if (JW.jt (jw_or (jt_cmp (jv 6) (jv 3) (op_leM hu) snd_le) (jw_or1 (jt_cmp (je_ix (jv 2) (jv 7)) (je_ix (jv 2) (jv 8)) (op_eqM hu) snd_eq)))) (jb_one (js_never)) (jb_nil))
    (jb_cons (jset 2 (je_call ((ok__joined T).up (by omega)) hg hr T.d__joined.gl T.d__joined.kp (ja_cons (jv 2) (ja_cons (je_ix (jv 2) (jv 7)) (ja_cons (je_ix (jv 2) (jv 8)) (ja_nil))))) ndN)
    (jb_one (jset 3 (jv 6) ndN)))))))))))
theorem ok__check_couplings (T : Txt K mg ad) : FnG P w K mg base 4 (ad 7) 2 [] m_check_couplings := T.d__check_couplings.fn.elim fun _ F => fnG F sc_check_couplings rfl rfl (fun _ _ _ _ _ _ us hl => match us, hl with | [_, _], _ => rfl) (b_check_couplings T)
theorem scvalidate_yard : FnScope ["yard", "walls", "couplings"] ["yard"] (defScope svalidate_yard) := ⟨rfl, rfl, rfl, by decide +kernel, rfl, by decide +kernel, by decide +kernel⟩
theorem bvalidate_yard (T : Txt K mg ad) : BodyOk P w K mg base ["yard", "walls", "couplings"] "validate_yard" svalidate_yard (ad 3) 4 (mSeq (mIte (mNot (mT (mCall 2 mis_tuple_of (mCons (mVar 0) (mCons (mC (.int 2)) (mNil)))))) (mNever) (mNext))
    (mSeq (mAsg (mVar 0) (gQ 2 (gCo (gN 1) (gCo (gN 2) (gNi)))))
    (mSeq (mDrop (mCall 1 m_check_pairs (mCons (mVar 1) (mNil))))
    (mDrop (mCall 2 m_check_couplings (mCons (mVar 2) (mCons (mApp fLen (mCons (mVar 1) (mNil))) (mNil)))))))) := by
  intro cdv A outer s H E hg hr
  have hu := hr.units
  have hu1 := hu_of hr
  have ndN : (BCx P w K mg base ["yard", "walls", "couplings"] "validate_yard" svalidate_yard (ad 3) cdv A outer s H E).N.Nodup := by show (["yard", "walls", "couplings"] : List Str).Nodup; decide +kernel
  exact jb_cons (js_if (jt_not (jt_val (je_call ((ok_is_tuple_of T).up (by omega)) hg hr T.d_is_tuple_of.gl T.d_is_tuple_of.kp (ja_cons (jv 0) (ja_cons (je_int) (ja_nil)))))) (jb_one (js_never)) (jb_nil))
    (jb_cons (js_asg (jv 0) (jg_seq rfl (jgs_cons (jn 1 ndN) (jgs_cons (jn 2 ndN) (jgs_nil)))))
    (jb_cons (js_expr (je_call ((ok__check_pairs T).up (by omega)) hg hr T.d__check_pairs.gl T.d__check_pairs.kp (ja_cons (jv 1) (ja_nil))))
    (jb_one (js_expr (je_call ((ok__check_couplings T).up (by omega)) hg hr T.d__check_couplings.gl T.d__check_couplings.kp (ja_cons (jv 2) (ja_cons (je_app call_len_seq snd_len T.n_len (by decide +kernel) (ja_cons (jv 1) (ja_nil))) (ja_nil))))))))
theorem ok_validate_yard (T : Txt K mg ad) : FnG P w K mg base 5 (ad 3) 1 [] mvalidate_yard := T.d_validate_yard.fn.elim fun _ F => fnG F scvalidate_yard rfl rfl (fun _ _ _ _ _ _ us hl => match us, hl with | [_], _ => rfl) (bvalidate_yard T)
theorem scis_yard : FnScope ["value"] ["value"] (defScope sis_yard) := ⟨rfl, rfl, rfl, by decide +kernel, rfl, by decide +kernel, by decide +kernel⟩
theorem bis_yard (T : Txt K mg ad) : BodyOk P w K mg base ["value"] "is_yard" sis_yard (ad 4) 5 (mSeq (mThru (mDrop (mCall 1 mvalidate_yard (mCons (mVar 0) (mNil)))))
    (mRet (mC (.bl true)))) := by
  intro cdv A outer s H E hg hr
  have hu := hr.units
  have hu1 := hu_of hr
  have ndN : (BCx P w K mg base ["value"] "is_yard" sis_yard (ad 4) cdv A outer s H E).N.Nodup := by show (["value"] : List Str).Nodup; decide +kernel
  exact jb_cons (js_thru (jb_one (js_expr (je_call ((ok_validate_yard T).up (by omega)) hg hr T.d_validate_yard.gl T.d_validate_yard.kp (ja_cons (jv 0) (ja_nil))))))
    (jb_one (js_ret (je_bl)))
theorem ok_is_yard (T : Txt K mg ad) : FnG P w K mg base 6 (ad 4) 1 [] mis_yard := T.d_is_yard.fn.elim fun _ F => fnG F scis_yard rfl rfl (fun _ _ _ _ _ _ us hl => match us, hl with | [_], _ => rfl) (bis_yard T)
theorem scyard_text : FnScope ["yard", "walls", "couplings", "low", "high", "i", "j", "least", "greatest"] ["yard"] (defScope syard_text) := ⟨rfl, rfl, rfl, by decide +kernel, rfl, by decide +kernel, by decide +kernel⟩
theorem byard_text (T : Txt K mg ad) : BodyOk P w K mg base ["yard", "walls", "couplings", "low", "high", "i", "j", "least", "greatest"] "yard_text" syard_text (ad 10) 5 (mSeq (mDrop (mCall 1 mvalidate_yard (mCons (mVar 0) (mNil))))
    (mSeq (mSet 1 (mLc (mWk (mOp fIx (mVar 0) (mC (.int 0)))) (.tp [.nm 3, .nm 4]) [3, 4] (mYes) (mFs [mC (.str "wagon "), mVar 3, mC (.str " "), mVar 4] Str.empty)))
    (mSeq (mSet 2 (mLc (mWk (mOp fIx (mVar 0) (mC (.int 1)))) (.tp [.nm 5, .nm 6, .nm 7, .nm 8]) [5, 6, 7, 8] (mYes) (mFs [mC (.str "coupling "), mVar 5, mC (.str " "), mVar 6, mC (.str " "), mVar 7, mC (.str " "), mVar 8] Str.empty)))
    (mRet (mStr2 fJoin (mC (.str "\n")) (mOp fAdd (mVar 1) (mVar 2))))))) := by
  intro cdv A outer s H E hg hr
  have hu := hr.units
  have hu1 := hu_of hr
  have ndN : (BCx P w K mg base ["yard", "walls", "couplings", "low", "high", "i", "j", "least", "greatest"] "yard_text" syard_text (ad 10) cdv A outer s H E).N.Nodup := by show (["yard", "walls", "couplings", "low", "high", "i", "j", "least", "greatest"] : List Str).Nodup; decide +kernel
  exact jb_cons (js_expr (je_call ((ok_validate_yard T).up (by omega)) hg hr T.d_validate_yard.gl T.d_validate_yard.kp (ja_cons (jv 0) (ja_nil))))
    (jb_cons (js_setLc (own := [("low", 3), ("high", 4)]) rfl ndN (i := 1) rfl rfl (by rfl) (ji_seq (je_ix (jv 0) (je_int))) (blk_mk (by kernel_rfl)) (by decide) (fun _ _ _ _ _ => pg_tup rfl (pgs_cons (pn 3 ndN) (pgs_cons (pn 4 ndN) (pgs_nil)))) (fun _ _ _ _ _ => jc_nil) (fun _ _ _ _ _ => je_fs (.c (.f (jv 3) (.c (.f (jv 4) (.nil)))))))
    (jb_cons (js_setLc (own := [("i", 5), ("j", 6), ("least", 7), ("greatest", 8)]) rfl ndN (i := 2) rfl rfl (by rfl) (ji_seq (je_ix (jv 0) (je_int))) (blk_mk (by kernel_rfl)) (by decide) (fun _ _ _ _ _ => pg_tup rfl (pgs_cons (pn 5 ndN) (pgs_cons (pn 6 ndN) (pgs_cons (pn 7 ndN) (pgs_cons (pn 8 ndN) (pgs_nil)))))) (fun _ _ _ _ _ => jc_nil) (fun _ _ _ _ _ => je_fs (.c (.f (jv 5) (.c (.f (jv 6) (.c (.f (jv 7) (.c (.f (jv 8) (.nil)))))))))))
    (jb_one (js_ret (je_join (je_str) (je_op (jv 1) (jv 2) op_addM snd_add))))))
theorem ok_yard_text_kw_yard (T : Txt K mg ad) : FnG P w K mg base 6 (ad 10) 0 ["yard"] (mKw [0] myard_text) := T.d_yard_text.fn.elim fun _ F => fnGK (sel := [0]) F scyard_text rfl rfl (fun _ _ _ _ _ _ us hl => match us, hl with | [_], _ => ⟨rfl, rfl⟩) (byard_text T)
theorem scparse_yard : FnScope ["text", "yard", "number", "line"] ["text"] (defScope sparse_yard) := ⟨rfl, rfl, rfl, by decide +kernel, rfl, by decide +kernel, by decide +kernel⟩
theorem bparse_yard (T : Txt K mg ad) : BodyOk P w K mg base ["text", "yard", "number", "line"] "parse_yard" sparse_yard (ad 11) 6 (mSeq (mIte (mNot (mT (mIsi .str (mVar 0)))) (mNever) (mNext))
    (mSeq (mSet 1 (mTup (mCons (mTup (mNil)) (mCons (mTup (mNil)) (mNil)))))
    (mSeq (mFor (mEnumF 1 (mCons (mStr2 fSplit (mVar 0) (mC (.str "\n"))) (mNil))) (gQ 2 (gCo (gN 2) (gCo (gN 3) (gNi)))) (mSeq (mSet 1 (mCall 2 m_with_line (mCons (mVar 1) (mCons (mVar 3) (mNil)))))
    (mIte (mNot (mT (mCall 1 mis_yard (mCons (mVar 1) (mNil))))) (mNever) (mNext))))
    (mRet (mVar 1))))) := by
  intro cdv A outer s H E hg hr
  have hu := hr.units
  have hu1 := hu_of hr
  have ndN : (BCx P w K mg base ["text", "yard", "number", "line"] "parse_yard" sparse_yard (ad 11) cdv A outer s H E).N.Nodup := by show (["text", "yard", "number", "line"] : List Str).Nodup; decide +kernel
  exact jb_cons (js_if (jt_not (jt_val (je_isi T.n_isinstance T.n_str (by decide +kernel) (by decide) (jv 0)))) (jb_one (js_never)) (jb_nil))
    (jb_cons (jset 1 (je_tup (ja_cons (je_tup (ja_nil)) (ja_cons (je_tup (ja_nil)) (ja_nil)))) ndN)
    (jb_cons (js_for (passes_of rfl) rfl (ji_enumF (by decide) (by decide) (ja_cons (je_split (jv 0) (je_str)) (ja_nil)) T.n_enumerate) (jg_seq rfl (jgs_cons (jn 2 ndN) (jgs_cons (jn 3 ndN) (jgs_nil)))) (jb_cons (jset 1 (je_call ((ok__with_line T).up (by omega)) hg hr T.d__with_line.gl T.d__with_line.kp (ja_cons (jv 1) (ja_cons (jv 3) (ja_nil)))) ndN)
    (jb_one (js_if (jt_not (jt_val (je_call ((ok_is_yard T).up (by omega)) hg hr T.d_is_yard.gl T.d_is_yard.kp (ja_cons (jv 1) (ja_nil))))) (jb_one (js_never)) (jb_nil)))))
    (jb_one (js_ret (jv 1)))))
theorem ok_parse_yard_kw_text (T : Txt K mg ad) : FnG P w K mg base 7 (ad 11) 0 ["text"] (mKw [0] mparse_yard) := T.d_parse_yard.fn.elim fun _ F => fnGK (sel := [0]) F scparse_yard rfl rfl (fun _ _ _ _ _ _ us hl => match us, hl with | [_], _ => ⟨rfl, rfl⟩) (bparse_yard T)
theorem ok_parse_yard (T : Txt K mg ad) : FnG P w K mg base 7 (ad 11) 1 [] mparse_yard := T.d_parse_yard.fn.elim fun _ F => fnG F scparse_yard rfl rfl (fun _ _ _ _ _ _ us hl => match us, hl with | [_], _ => rfl) (bparse_yard T)
theorem sclaw : FnScope ["script", "m", "turn", "plan", "told", "walls", "widest", "wall", "u", "v", "floor", "ceiling"] ["script"] (defScope slaw) := ⟨rfl, rfl, rfl, by decide +kernel, rfl, by decide +kernel, by decide +kernel⟩
theorem blaw (T : Txt K mg ad) : BodyOk P w K mg base ["script", "m", "turn", "plan", "told", "walls", "widest", "wall", "u", "v", "floor", "ceiling"] "law" slaw (ad 21) 7 (mSeq (mSet 1 (mToOrc (DrP 0) (mCall 1 m_law_begun (mCons (mVar 0) (mNil)))))
    (mSeq (mFor (mRg1 (mCons (mOp fAdd (mC (.int 3)) (mApp (fTwo (fun i j => if j < i then j else i)) (mCons (mC (.int 8)) (mCons (mApp fLen (mCons (mVar 0) (mNil))) (mNil))))) (mNil))) (gN 2) (mSeq (mSet 3 (mOp fIx (mCall 3 m_law_yard (mCons (mVar 1) (mCons (mOp fIx (mLst (mCons (mC (.int 1)) (mCons (mC (.int 4)) (mCons (mC (.int 40)) (mNil))))) (mCall 2 (orcF m_law_next) (mCons (mVar 1) (mCons (mC (.int 3)) (mNil))))) (mCons (mOp fIx (mLst (mCons (mC (.int 3)) (mCons (mC (.int 900)) (mNil)))) (mCall 2 (orcF m_law_next) (mCons (mVar 1) (mCons (mC (.int 2)) (mNil))))) (mNil))))) (mC (.int 0))))
    (mSeq (mIte (mT (mOp fEq (mCall 2 (orcF m_law_next) (mCons (mVar 1) (mCons (mC (.int 3)) (mNil)))) (mC (.int 0)))) (mSeq (mSet 5 (mApp fTuple (mCons (mLc (mWk (mOp fIx (mVar 3) (mC (.int 0)))) (.nm 7) [7] (mYes) (mTup (mCons (mOp fSub (mC (.int 0)) (mOp fPow (mC (.int 10)) (mC (.int 9)))) (mCons (mOp fPow (mC (.int 10)) (mC (.int 9))) (mNil))))) (mNil))))
    (mSeq (mSet 6 (mLc (mWk (mOp fIx (mVar 3) (mC (.int 1)))) (.tp [.nm 8, .nm 9, .nm 10, .nm 11]) [8, 9, 10, 11] (mYes) (mTup (mCons (mVar 8) (mCons (mVar 9) (mCons (mOp fSub (mC (.int 0)) (mOp fPow (mC (.int 10)) (mC (.int 10)))) (mCons (mOp fPow (mC (.int 10)) (mC (.int 10))) (mNil))))))))
    (mSet 3 (mTup (mCons (mVar 5) (mCons (mApp fTuple (mCons (mVar 6) (mNil))) (mNil))))))) (mNext))
    (mSeq (mSet 4 (mCall 1 (mKw [0] myard_text) (mCons (mVar 3) (mNil))))
    (mIte (mOr (mT (mOp fNe (mVar 4) (mCall 1 m_law_text (mCons (mVar 3) (mNil))))) (mOr (mT (mOp fNe (mCall 1 (mKw [0] mparse_yard) (mCons (mVar 4) (mNil))) (mVar 3))) (mOr (mT (mOp fNe (mCall 1 m_law_read (mCons (mVar 4) (mNil))) (mVar 3))) (mNot (mT (mCall 1 mis_yard (mCons (mVar 3) (mNil)))))))) (mRet (mC (.bl false))) (mNext))))))
    (mRet (mOp fEq (mCall 1 mparse_yard (mCons (mC (.str "wagon 0 0")) (mNil))) (mTup (mCons (mTup (mCons (mTup (mCons (mC (.int 0)) (mCons (mC (.int 0)) (mNil)))) (mNil))) (mCons (mTup (mNil)) (mNil)))))))) := by
  intro cdv A outer s H E hg hr
  have hu := hr.units
  have hu1 := hu_of hr
  have ndN : (BCx P w K mg base ["script", "m", "turn", "plan", "told", "walls", "widest", "wall", "u", "v", "floor", "ceiling"] "law" slaw (ad 21) cdv A outer s H E).N.Nodup := by show (["script", "m", "turn", "plan", "told", "walls", "widest", "wall", "u", "v", "floor", "ceiling"] : List Str).Nodup; decide +kernel
  exact jb_cons (jset 1 (je_orc (je_call ((ok__law_begun T).up (by omega)) hg hr T.d__law_begun.gl T.d__law_begun.kp (ja_cons (jv 0) (ja_nil)))) ndN)
    (jb_cons (js_for (passes_of rfl) rfl (ji_rg1 (ja_cons (je_op (je_int) (je_app (call_min2 rfl) snd_two T.n_min (by decide +kernel) (ja_cons (je_int) (ja_cons (je_app call_len_seq snd_len T.n_len (by decide +kernel) (ja_cons (jv 0) (ja_nil))) (ja_nil)))) op_addM snd_add) (ja_nil)) T.n_range) (jn 2 ndN) (jb_cons (jset 3 (je_ix (je_call ((ok__law_yard T).up (by omega)) hg hr T.d__law_yard.gl T.d__law_yard.kp (ja_cons (jv 1) (ja_cons (je_ix (je_lst (ja_cons (je_int) (ja_cons (je_int) (ja_cons (je_int) (ja_nil))))) (je_call ((ok__law_next T).up (by omega)) hg hr T.d__law_next.gl T.d__law_next.kp (ja_cons (jv 1) (ja_cons (je_int) (ja_nil))))) (ja_cons (je_ix (je_lst (ja_cons (je_int) (ja_cons (je_int) (ja_nil)))) (je_call ((ok__law_next T).up (by omega)) hg hr T.d__law_next.gl T.d__law_next.kp (ja_cons (jv 1) (ja_cons (je_int) (ja_nil))))) (ja_nil))))) (je_int)) ndN)
    (jb_cons (js_if (jt_cmp (je_call ((ok__law_next T).up (by omega)) hg hr T.d__law_next.gl T.d__law_next.kp (ja_cons (jv 1) (ja_cons (je_int) (ja_nil)))) (je_int) (op_eqM hu) snd_eq) (jb_cons (jset 5 (je_appT call_tuple_of snd_tuple T.n_tuple (by decide +kernel) (ja_cons (by exact je_lc (own := [("wall", 7)]) rfl ndN (ji_seq (je_ix (jv 3) (je_int))) (blk_mk (by kernel_rfl)) (by decide) (fun _ _ _ _ _ => pn 7 ndN) (fun _ _ _ _ _ => jc_nil) (fun _ _ _ _ _ => je_tup (ja_cons (je_op (je_int) (je_op (je_int) (je_int) op_pow snd_int) op_sub snd_I0) (ja_cons (je_op (je_int) (je_int) op_pow snd_int) (ja_nil))))) (ja_nil))) ndN)
    (jb_cons (js_setLc (own := [("u", 8), ("v", 9), ("floor", 10), ("ceiling", 11)]) rfl ndN (i := 6) rfl rfl (by rfl) (ji_seq (je_ix (jv 3) (je_int))) (blk_mk (by kernel_rfl)) (by decide) (fun _ _ _ _ _ => pg_tup rfl (pgs_cons (pn 8 ndN) (pgs_cons (pn 9 ndN) (pgs_cons (pn 10 ndN) (pgs_cons (pn 11 ndN) (pgs_nil)))))) (fun _ _ _ _ _ => jc_nil) (fun _ _ _ _ _ => je_tup (ja_cons (jv 8) (ja_cons (jv 9) (ja_cons (je_op (je_int) (je_op (je_int) (je_int) op_pow snd_int) op_sub snd_I0) (ja_cons (je_op (je_int) (je_int) op_pow snd_int) (ja_nil)))))))
    (jb_one (jset 3 (je_tup (ja_cons (jv 5) (ja_cons (je_appT call_tuple_of snd_tuple T.n_tuple (by decide +kernel) (ja_cons (jv 6) (ja_nil))) (ja_nil)))) ndN)))) (jb_nil))
    (jb_cons (jset 4 (je_callK0 ((ok_yard_text_kw_yard T).up (by omega)) hg hr T.d_yard_text.gl T.d_yard_text.kp (jk_cons (jv 3) (jk_nil))) ndN)
    (jb_one (js_if (JW.jt (jw_or (jt_cmp (jv 4) (je_call ((ok__law_text T).up (by omega)) hg hr T.d__law_text.gl T.d__law_text.kp (ja_cons (jv 3) (ja_nil))) (op_neM hu) snd_ne) (jw_or (jt_cmp (je_callK0 ((ok_parse_yard_kw_text T).up (by omega)) hg hr T.d_parse_yard.gl T.d_parse_yard.kp (jk_cons (jv 4) (jk_nil))) (jv 3) (op_neM hu) snd_ne) (jw_or (jt_cmp (je_call ((ok__law_read T).up (by omega)) hg hr T.d__law_read.gl T.d__law_read.kp (ja_cons (jv 4) (ja_nil))) (jv 3) (op_neM hu) snd_ne) (jw_or1 (jt_not (jt_val (je_call ((ok_is_yard T).up (by omega)) hg hr T.d_is_yard.gl T.d_is_yard.kp (ja_cons (jv 3) (ja_nil)))))))))) (jb_one (js_ret (je_bl))) (jb_nil)))))))
    (jb_one (js_ret (je_cmp (je_call ((ok_parse_yard T).up (by omega)) hg hr T.d_parse_yard.gl T.d_parse_yard.kp (ja_cons (je_str) (ja_nil))) (je_tup (ja_cons (je_tup (ja_cons (je_tup (ja_cons (je_int) (ja_cons (je_int) (ja_nil)))) (ja_nil))) (ja_cons (je_tup (ja_nil)) (ja_nil)))) (op_eqM hu) snd_eq))))
theorem ok_law (T : Txt K mg ad) : FnG P w K mg base 8 (ad 21) 1 [] mlaw := T.d_law.fn.elim fun _ F => fnG F sclaw rfl rfl (fun _ _ _ _ _ _ us hl => match us, hl with | [_], _ => rfl) (blaw T)
theorem all_mk {P : Program} {w : World} {K : PySem.W.Frag} {h : Heap} {mg : Str → Option Value} {fa : Addr} (KX : K.In h) (NS : h.Ns mainGlobals mg) (hfa : mg "law" = some (.ref fa))
    {f0 : Addr} {od0 an0 : Option Addr} {sl0 : Array (Option Value)} {oc0 kV0 dc0 pm0 cd0 ct0 : Value}
    {f1 : Addr} {od1 an1 : Option Addr} {sl1 : Array (Option Value)} {oc1 kV1 dc1 pm1 cd1 ct1 : Value}
    {f2 : Addr} {od2 an2 : Option Addr} {sl2 : Array (Option Value)} {oc2 kV2 dc2 pm2 cd2 ct2 : Value}
    {f3 : Addr} {od3 an3 : Option Addr} {sl3 : Array (Option Value)} {oc3 kV3 dc3 pm3 cd3 ct3 : Value}
    {f4 : Addr} {od4 an4 : Option Addr} {sl4 : Array (Option Value)} {oc4 kV4 dc4 pm4 cd4 ct4 : Value}
    {f5 : Addr} {od5 an5 : Option Addr} {sl5 : Array (Option Value)} {oc5 kV5 dc5 pm5 cd5 ct5 : Value}
    {f6 : Addr} {od6 an6 : Option Addr} {sl6 : Array (Option Value)} {oc6 kV6 dc6 pm6 cd6 ct6 : Value}
    {f7 : Addr} {od7 an7 : Option Addr} {sl7 : Array (Option Value)} {oc7 kV7 dc7 pm7 cd7 ct7 : Value}
    {f8 : Addr} {od8 an8 : Option Addr} {sl8 : Array (Option Value)} {oc8 kV8 dc8 pm8 cd8 ct8 : Value}
    {f9 : Addr} {od9 an9 : Option Addr} {sl9 : Array (Option Value)} {oc9 kV9 dc9 pm9 cd9 ct9 : Value}
    {f10 : Addr} {od10 an10 : Option Addr} {sl10 : Array (Option Value)} {oc10 kV10 dc10 pm10 cd10 ct10 : Value}
    {f11 : Addr} {od11 an11 : Option Addr} {sl11 : Array (Option Value)} {oc11 kV11 dc11 pm11 cd11 ct11 : Value}
    {f12 : Addr} {od12 an12 : Option Addr} {sl12 : Array (Option Value)} {oc12 kV12 dc12 pm12 cd12 ct12 : Value}
    {f13 : Addr} {od13 an13 : Option Addr} {sl13 : Array (Option Value)} {oc13 kV13 dc13 pm13 cd13 ct13 : Value}
    {f14 : Addr} {od14 an14 : Option Addr} {sl14 : Array (Option Value)} {oc14 kV14 dc14 pm14 cd14 ct14 : Value}
    {f15 : Addr} {od15 an15 : Option Addr} {sl15 : Array (Option Value)} {oc15 kV15 dc15 pm15 cd15 ct15 : Value}
    {f16 : Addr} {od16 an16 : Option Addr} {sl16 : Array (Option Value)} {oc16 kV16 dc16 pm16 cd16 ct16 : Value}
    {f17 : Addr} {od17 an17 : Option Addr} {sl17 : Array (Option Value)} {oc17 kV17 dc17 pm17 cd17 ct17 : Value}
    {f18 : Addr} {od18 an18 : Option Addr} {sl18 : Array (Option Value)} {oc18 kV18 dc18 pm18 cd18 ct18 : Value}
    {f19 : Addr} {od19 an19 : Option Addr} {sl19 : Array (Option Value)} {oc19 kV19 dc19 pm19 cd19 ct19 : Value}
    {f20 : Addr} {od20 an20 : Option Addr} {sl20 : Array (Option Value)} {oc20 kV20 dc20 pm20 cd20 ct20 : Value}
    {f21 : Addr} {od21 an21 : Option Addr} {sl21 : Array (Option Value)} {oc21 kV21 dc21 pm21 cd21 ct21 : Value}
    {t_MOST_WAGONS : Tok}
    {t_MOST_PLACE : Tok}
    {t_MOST_DIFFERENCE : Tok}
    {t_MOST_SIGNS : Tok}
    (a0 : PySem.W.nsIn K mainGlobals "is_integer" = some (some (.ref f0))) (l0 : K.lookup f0 = some ⟨oc0, od0, .func (PySem.W.fnOf "is_integer" "is_integer" (defArgs sis_integer) (defBody sis_integer) (defScope sis_integer) .none kV0 dc0 pm0 an0 cd0 ct0), sl0⟩) (c0 : PySem.W.codeIn K cd0 "is_integer" = true) (k0 : PySem.W.keepIn K (.ref f0) = true)
    (a1 : PySem.W.nsIn K mainGlobals "is_integer_from" = some (some (.ref f1))) (l1 : K.lookup f1 = some ⟨oc1, od1, .func (PySem.W.fnOf "is_integer_from" "is_integer_from" (defArgs sis_integer_from) (defBody sis_integer_from) (defScope sis_integer_from) .none kV1 dc1 pm1 an1 cd1 ct1), sl1⟩) (c1 : PySem.W.codeIn K cd1 "is_integer_from" = true) (k1 : PySem.W.keepIn K (.ref f1) = true)
    (a2 : PySem.W.nsIn K mainGlobals "is_tuple_of" = some (some (.ref f2))) (l2 : K.lookup f2 = some ⟨oc2, od2, .func (PySem.W.fnOf "is_tuple_of" "is_tuple_of" (defArgs sis_tuple_of) (defBody sis_tuple_of) (defScope sis_tuple_of) .none kV2 dc2 pm2 an2 cd2 ct2), sl2⟩) (c2 : PySem.W.codeIn K cd2 "is_tuple_of" = true) (k2 : PySem.W.keepIn K (.ref f2) = true)
    (a3 : PySem.W.nsIn K mainGlobals "validate_yard" = some (some (.ref f3))) (l3 : K.lookup f3 = some ⟨oc3, od3, .func (PySem.W.fnOf "validate_yard" "validate_yard" (defArgs svalidate_yard) (defBody svalidate_yard) (defScope svalidate_yard) .none kV3 dc3 pm3 an3 cd3 ct3), sl3⟩) (c3 : PySem.W.codeIn K cd3 "validate_yard" = true) (k3 : PySem.W.keepIn K (.ref f3) = true)
    (a4 : PySem.W.nsIn K mainGlobals "is_yard" = some (some (.ref f4))) (l4 : K.lookup f4 = some ⟨oc4, od4, .func (PySem.W.fnOf "is_yard" "is_yard" (defArgs sis_yard) (defBody sis_yard) (defScope sis_yard) .none kV4 dc4 pm4 an4 cd4 ct4), sl4⟩) (c4 : PySem.W.codeIn K cd4 "is_yard" = true) (k4 : PySem.W.keepIn K (.ref f4) = true)
    (a5 : PySem.W.nsIn K mainGlobals "_check_pairs" = some (some (.ref f5))) (l5 : K.lookup f5 = some ⟨oc5, od5, .func (PySem.W.fnOf "_check_pairs" "_check_pairs" (defArgs s_check_pairs) (defBody s_check_pairs) (defScope s_check_pairs) .none kV5 dc5 pm5 an5 cd5 ct5), sl5⟩) (c5 : PySem.W.codeIn K cd5 "_check_pairs" = true) (k5 : PySem.W.keepIn K (.ref f5) = true)
    (a6 : PySem.W.nsIn K mainGlobals "_is_pair_of_places" = some (some (.ref f6))) (l6 : K.lookup f6 = some ⟨oc6, od6, .func (PySem.W.fnOf "_is_pair_of_places" "_is_pair_of_places" (defArgs s_is_pair_of_places) (defBody s_is_pair_of_places) (defScope s_is_pair_of_places) .none kV6 dc6 pm6 an6 cd6 ct6), sl6⟩) (c6 : PySem.W.codeIn K cd6 "_is_pair_of_places" = true) (k6 : PySem.W.keepIn K (.ref f6) = true)
    (a7 : PySem.W.nsIn K mainGlobals "_check_couplings" = some (some (.ref f7))) (l7 : K.lookup f7 = some ⟨oc7, od7, .func (PySem.W.fnOf "_check_couplings" "_check_couplings" (defArgs s_check_couplings) (defBody s_check_couplings) (defScope s_check_couplings) .none kV7 dc7 pm7 an7 cd7 ct7), sl7⟩) (c7 : PySem.W.codeIn K cd7 "_check_couplings" = true) (k7 : PySem.W.keepIn K (.ref f7) = true)
    (a8 : PySem.W.nsIn K mainGlobals "_is_coupling" = some (some (.ref f8))) (l8 : K.lookup f8 = some ⟨oc8, od8, .func (PySem.W.fnOf "_is_coupling" "_is_coupling" (defArgs s_is_coupling) (defBody s_is_coupling) (defScope s_is_coupling) .none kV8 dc8 pm8 an8 cd8 ct8), sl8⟩) (c8 : PySem.W.codeIn K cd8 "_is_coupling" = true) (k8 : PySem.W.keepIn K (.ref f8) = true)
    (a9 : PySem.W.nsIn K mainGlobals "_joined" = some (some (.ref f9))) (l9 : K.lookup f9 = some ⟨oc9, od9, .func (PySem.W.fnOf "_joined" "_joined" (defArgs s_joined) (defBody s_joined) (defScope s_joined) .none kV9 dc9 pm9 an9 cd9 ct9), sl9⟩) (c9 : PySem.W.codeIn K cd9 "_joined" = true) (k9 : PySem.W.keepIn K (.ref f9) = true)
    (a10 : PySem.W.nsIn K mainGlobals "yard_text" = some (some (.ref f10))) (l10 : K.lookup f10 = some ⟨oc10, od10, .func (PySem.W.fnOf "yard_text" "yard_text" (defArgs syard_text) (defBody syard_text) (defScope syard_text) .none kV10 dc10 pm10 an10 cd10 ct10), sl10⟩) (c10 : PySem.W.codeIn K cd10 "yard_text" = true) (k10 : PySem.W.keepIn K (.ref f10) = true)
    (a11 : PySem.W.nsIn K mainGlobals "parse_yard" = some (some (.ref f11))) (l11 : K.lookup f11 = some ⟨oc11, od11, .func (PySem.W.fnOf "parse_yard" "parse_yard" (defArgs sparse_yard) (defBody sparse_yard) (defScope sparse_yard) .none kV11 dc11 pm11 an11 cd11 ct11), sl11⟩) (c11 : PySem.W.codeIn K cd11 "parse_yard" = true) (k11 : PySem.W.keepIn K (.ref f11) = true)
    (a12 : PySem.W.nsIn K mainGlobals "_with_line" = some (some (.ref f12))) (l12 : K.lookup f12 = some ⟨oc12, od12, .func (PySem.W.fnOf "_with_line" "_with_line" (defArgs s_with_line) (defBody s_with_line) (defScope s_with_line) .none kV12 dc12 pm12 an12 cd12 ct12), sl12⟩) (c12 : PySem.W.codeIn K cd12 "_with_line" = true) (k12 : PySem.W.keepIn K (.ref f12) = true)
    (a13 : PySem.W.nsIn K mainGlobals "_integer" = some (some (.ref f13))) (l13 : K.lookup f13 = some ⟨oc13, od13, .func (PySem.W.fnOf "_integer" "_integer" (defArgs s_integer) (defBody s_integer) (defScope s_integer) .none kV13 dc13 pm13 an13 cd13 ct13), sl13⟩) (c13 : PySem.W.codeIn K cd13 "_integer" = true) (k13 : PySem.W.keepIn K (.ref f13) = true)
    (a14 : PySem.W.nsIn K mainGlobals "_law_begun" = some (some (.ref f14))) (l14 : K.lookup f14 = some ⟨oc14, od14, .func (PySem.W.fnOf "_law_begun" "_law_begun" (defArgs s_law_begun) (defBody s_law_begun) (defScope s_law_begun) .none kV14 dc14 pm14 an14 cd14 ct14), sl14⟩) (c14 : PySem.W.codeIn K cd14 "_law_begun" = true) (k14 : PySem.W.keepIn K (.ref f14) = true)
    (a15 : PySem.W.nsIn K mainGlobals "_law_next" = some (some (.ref f15))) (l15 : K.lookup f15 = some ⟨oc15, od15, .func (PySem.W.fnOf "_law_next" "_law_next" (defArgs s_law_next) (defBody s_law_next) (defScope s_law_next) .none kV15 dc15 pm15 an15 cd15 ct15), sl15⟩) (c15 : PySem.W.codeIn K cd15 "_law_next" = true) (k15 : PySem.W.keepIn K (.ref f15) = true)
    (a16 : PySem.W.nsIn K mainGlobals "_law_of" = some (some (.ref f16))) (l16 : K.lookup f16 = some ⟨oc16, od16, .func (PySem.W.fnOf "_law_of" "_law_of" (defArgs s_law_of) (defBody s_law_of) (defScope s_law_of) .none kV16 dc16 pm16 an16 cd16 ct16), sl16⟩) (c16 : PySem.W.codeIn K cd16 "_law_of" = true) (k16 : PySem.W.keepIn K (.ref f16) = true)
    (a17 : PySem.W.nsIn K mainGlobals "_law_shuffled" = some (some (.ref f17))) (l17 : K.lookup f17 = some ⟨oc17, od17, .func (PySem.W.fnOf "_law_shuffled" "_law_shuffled" (defArgs s_law_shuffled) (defBody s_law_shuffled) (defScope s_law_shuffled) .none kV17 dc17 pm17 an17 cd17 ct17), sl17⟩) (c17 : PySem.W.codeIn K cd17 "_law_shuffled" = true) (k17 : PySem.W.keepIn K (.ref f17) = true)
    (a18 : PySem.W.nsIn K mainGlobals "_law_yard" = some (some (.ref f18))) (l18 : K.lookup f18 = some ⟨oc18, od18, .func (PySem.W.fnOf "_law_yard" "_law_yard" (defArgs s_law_yard) (defBody s_law_yard) (defScope s_law_yard) .none kV18 dc18 pm18 an18 cd18 ct18), sl18⟩) (c18 : PySem.W.codeIn K cd18 "_law_yard" = true) (k18 : PySem.W.keepIn K (.ref f18) = true)
    (a19 : PySem.W.nsIn K mainGlobals "_law_text" = some (some (.ref f19))) (l19 : K.lookup f19 = some ⟨oc19, od19, .func (PySem.W.fnOf "_law_text" "_law_text" (defArgs s_law_text) (defBody s_law_text) (defScope s_law_text) .none kV19 dc19 pm19 an19 cd19 ct19), sl19⟩) (c19 : PySem.W.codeIn K cd19 "_law_text" = true) (k19 : PySem.W.keepIn K (.ref f19) = true)
    (a20 : PySem.W.nsIn K mainGlobals "_law_read" = some (some (.ref f20))) (l20 : K.lookup f20 = some ⟨oc20, od20, .func (PySem.W.fnOf "_law_read" "_law_read" (defArgs s_law_read) (defBody s_law_read) (defScope s_law_read) .none kV20 dc20 pm20 an20 cd20 ct20), sl20⟩) (c20 : PySem.W.codeIn K cd20 "_law_read" = true) (k20 : PySem.W.keepIn K (.ref f20) = true)
    (a21 : PySem.W.nsIn K mainGlobals "law" = some (some (.ref f21))) (l21 : K.lookup f21 = some ⟨oc21, od21, .func (PySem.W.fnOf "law" "law" (defArgs slaw) (defBody slaw) (defScope slaw) .none kV21 dc21 pm21 an21 cd21 ct21), sl21⟩) (c21 : PySem.W.codeIn K cd21 "law" = true) (k21 : PySem.W.keepIn K (.ref f21) = true)
    (n_bool : PySem.W.nsIn K mainGlobals "bool" = some none)
    (n_enumerate : PySem.W.nsIn K mainGlobals "enumerate" = some none)
    (n_int : PySem.W.nsIn K mainGlobals "int" = some none)
    (n_isinstance : PySem.W.nsIn K mainGlobals "isinstance" = some none)
    (n_len : PySem.W.nsIn K mainGlobals "len" = some none)
    (n_list : PySem.W.nsIn K mainGlobals "list" = some none)
    (n_min : PySem.W.nsIn K mainGlobals "min" = some none)
    (n_range : PySem.W.nsIn K mainGlobals "range" = some none)
    (n_sorted : PySem.W.nsIn K mainGlobals "sorted" = some none)
    (n_str : PySem.W.nsIn K mainGlobals "str" = some none)
    (n_tuple : PySem.W.nsIn K mainGlobals "tuple" = some none)
    (g_MOST_WAGONS : PySem.W.nsIn K mainGlobals "MOST_WAGONS" = some (some (.int (40) t_MOST_WAGONS)))
    (g_MOST_PLACE : PySem.W.nsIn K mainGlobals "MOST_PLACE" = some (some (.int (1000000000) t_MOST_PLACE)))
    (g_MOST_DIFFERENCE : PySem.W.nsIn K mainGlobals "MOST_DIFFERENCE" = some (some (.int (10000000000) t_MOST_DIFFERENCE)))
    (g_MOST_SIGNS : PySem.W.nsIn K mainGlobals "MOST_SIGNS" = some (some (.int (12) t_MOST_SIGNS))) :
    ∀ base : Heap, K.In base → base.Ns mainGlobals mg → FnG P w K mg base 8 fa 1 [] mlaw := by
  cases hfa.symm.trans (PySem.W.mg_of KX NS a21)
  have T : Txt K mg (fun i => match i with | 0 => f0 | 1 => f1 | 2 => f2 | 3 => f3 | 4 => f4 | 5 => f5 | 6 => f6 | 7 => f7 | 8 => f8 | 9 => f9 | 10 => f10 | 11 => f11 | 12 => f12 | 13 => f13 | 14 => f14 | 15 => f15 | 16 => f16 | 17 => f17 | 18 => f18 | 19 => f19 | 20 => f20 | 21 => fa | _ => fa) := ⟨⟨PySem.W.mg_of KX NS a0, _, fun_mk (st := sis_integer) l0 c0 k0⟩,
    ⟨PySem.W.mg_of KX NS a1, _, fun_mk (st := sis_integer_from) l1 c1 k1⟩,
    ⟨PySem.W.mg_of KX NS a2, _, fun_mk (st := sis_tuple_of) l2 c2 k2⟩,
    ⟨PySem.W.mg_of KX NS a3, _, fun_mk (st := svalidate_yard) l3 c3 k3⟩,
    ⟨PySem.W.mg_of KX NS a4, _, fun_mk (st := sis_yard) l4 c4 k4⟩,
    ⟨PySem.W.mg_of KX NS a5, _, fun_mk (st := s_check_pairs) l5 c5 k5⟩,
    ⟨PySem.W.mg_of KX NS a6, _, fun_mk (st := s_is_pair_of_places) l6 c6 k6⟩,
    ⟨PySem.W.mg_of KX NS a7, _, fun_mk (st := s_check_couplings) l7 c7 k7⟩,
    ⟨PySem.W.mg_of KX NS a8, _, fun_mk (st := s_is_coupling) l8 c8 k8⟩,
    ⟨PySem.W.mg_of KX NS a9, _, fun_mk (st := s_joined) l9 c9 k9⟩,
    ⟨PySem.W.mg_of KX NS a10, _, fun_mk (st := syard_text) l10 c10 k10⟩,
    ⟨PySem.W.mg_of KX NS a11, _, fun_mk (st := sparse_yard) l11 c11 k11⟩,
    ⟨PySem.W.mg_of KX NS a12, _, fun_mk (st := s_with_line) l12 c12 k12⟩,
    ⟨PySem.W.mg_of KX NS a13, _, fun_mk (st := s_integer) l13 c13 k13⟩,
    ⟨PySem.W.mg_of KX NS a14, _, fun_mk (st := s_law_begun) l14 c14 k14⟩,
    ⟨PySem.W.mg_of KX NS a15, _, fun_mk (st := s_law_next) l15 c15 k15⟩,
    ⟨PySem.W.mg_of KX NS a16, _, fun_mk (st := s_law_of) l16 c16 k16⟩,
    ⟨PySem.W.mg_of KX NS a17, _, fun_mk (st := s_law_shuffled) l17 c17 k17⟩,
    ⟨PySem.W.mg_of KX NS a18, _, fun_mk (st := s_law_yard) l18 c18 k18⟩,
    ⟨PySem.W.mg_of KX NS a19, _, fun_mk (st := s_law_text) l19 c19 k19⟩,
    ⟨PySem.W.mg_of KX NS a20, _, fun_mk (st := s_law_read) l20 c20 k20⟩,
    ⟨PySem.W.mg_of KX NS a21, _, fun_mk (st := slaw) l21 c21 k21⟩,
    PySem.W.mg_none_of KX NS n_bool,
    PySem.W.mg_none_of KX NS n_enumerate,
    PySem.W.mg_none_of KX NS n_int,
    PySem.W.mg_none_of KX NS n_isinstance,
    PySem.W.mg_none_of KX NS n_len,
    PySem.W.mg_none_of KX NS n_list,
    PySem.W.mg_none_of KX NS n_min,
    PySem.W.mg_none_of KX NS n_range,
    PySem.W.mg_none_of KX NS n_sorted,
    PySem.W.mg_none_of KX NS n_str,
    PySem.W.mg_none_of KX NS n_tuple,
    ⟨_, PySem.W.mg_of KX NS g_MOST_WAGONS⟩,
    ⟨_, PySem.W.mg_of KX NS g_MOST_PLACE⟩,
    ⟨_, PySem.W.mg_of KX NS g_MOST_DIFFERENCE⟩,
    ⟨_, PySem.W.mg_of KX NS g_MOST_SIGNS⟩⟩
  exact fun base _ _ => ok_law T
theorem walk {l : PySem.W.OpenLaw} {q : Program} {loose : List Str} {XP : (Str → Option Value) → Heap → Prop} {YP : World → Heap → Prop} {d : DefRec} {K : Params → PySem.W.Frag} (hF : LawIs mlaw) (hn : l.most = some 63) (hdf : d.params.defaults = [])
    (hY : ∀ (w : World) (h : Heap), YP w h → (K w.params).In h) (G : ∀ (w : World) (mg : Str → Option Value) (fa : Addr) (h : Heap), (K w.params).In h → h.Ns mainGlobals mg → mg d.name = some (.ref fa) → ∀ base : Heap, (K w.params).In base → base.Ns mainGlobals mg → FnG l.prog w (K w.params) mg base 8 fa 1 [] mlaw) :
    PySem.W.WalkO q loose XP YP l.row.toRowW d [] (fun f vs => PySem.call f vs) := walkG hn hdf ⟨rfl, by decide, by decide⟩ hY hF G
end K55
end

section
set_option Elab.async false
set_option linter.all false
set_option maxRecDepth 100000
set_option maxHeartbeats 4001000
/-! Yards and arrangements as data. -/
namespace Yd
open PySem L2 Mir
variable {S : Store} {Q : D → Store → Prop} {X : XC}
/-- a pair of walls, a coupling, a yard, a row of places -/
structure C where
  i : Int
  j : Int
  l : Int
  g : Int
def wD (p : Int × Int) : D := .tup [.int p.1, .int p.2]
def cD (c : C) : D := .tup [.int c.i, .int c.j, .int c.l, .int c.g]
def yD (W : List (Int × Int)) (Cs : List C) : D := .tup [.tup (W.map wD), .tup (Cs.map cD)]
def rD (xs : List Int) : D := .tup (xs.map D.int)
/-- walls -/
structure VW (W : List (Int × Int)) : Prop where
  lo : 1 ≤ W.length
  hi : W.length ≤ 40
  ok : ∀ p ∈ W, -1000000000 ≤ p.1 ∧ p.1 ≤ p.2 ∧ p.2 ≤ 1000000000
/-- a coupling by itself -/
structure CR (n : Int) (c : C) : Prop where
  i0 : 0 ≤ c.i
  ij : c.i < c.j
  jn : c.j < n
  l0 : -10000000000 ≤ c.l
  lg : c.l < c.g
  g0 : c.g ≤ 10000000000
def joined (ls : List Int) (a b : Int) : List Int := ls.map fun x => if x = b then a else x
/-- the couplings, one after the other -/
def okC (n : Int) : List Int → List Int → List C → Prop
  | _, _, [] => True
  | ls, bef, c :: r => CR n c ∧ leT [c.i, c.j] bef = false ∧ ∃ a b, ls[c.i.toNat]? = some a ∧ ls[c.j.toNat]? = some b ∧ a ≠ b ∧ okC n (joined ls a b) [c.i, c.j] r
theorem atI_int {α : Type} {xs : List α} {i : Int} {d : α} (h0 : 0 ≤ i) (h : xs[i.toNat]? = some d) : atI xs i = some d := by
  have e : ((i.toNat : Nat) : Int) = i :=
      Int.toNat_of_nonneg h0
  have z := Mir.atI_nat h
  rw [e] at z
  exact z
theorem cut2 {a b c d : D} : cutD [a, b, c, d] none (some 2) = [a, b] := rfl
theorem cut_two {a b c d : D} {k : D → Prop} (h : k (.tup [a, b])) : fCut (.tup [a, b, c, d]) none (some 2) S k := h
structure Yard (W : List (Int × Int)) (Cs : List C) : Prop where
  w : VW W
  c : okC W.length ((List.range W.length).map fun (i : Nat) => (i : Int)) [] Cs
theorem okC_CR {n : Int} : ∀ {Cs : List C} {ls bef : List Int}, okC n ls bef Cs → ∀ c ∈ Cs, CR n c
  | [], _, _, _, c, h => absurd h List.not_mem_nil
  | d :: Cs, ls, bef, ⟨R, _, a, b, _, _, _, h⟩, c, hc => by
    rcases List.mem_cons.mp
        hc with rfl | hc
    · exact R
    · exact okC_CR h c hc
structure Arr (W : List (Int × Int)) (Cs : List C) (x : List Int) : Prop where
  len : x.length = W.length
  w : ∀ (i : Nat) (p : Int × Int) (v : Int), W[i]? = some p → x[i]? = some v → p.1 ≤ v ∧ v ≤ p.2
  c : ∀ c ∈ Cs, ∀ a b : Int, x[c.i.toNat]? = some a → x[c.j.toNat]? = some b → c.l ≤ b - a ∧ b - a ≤ c.g
def col (xs : List (List Int)) (i : Nat) : List Int := xs.filterMap fun x => x[i]?
/-- column by column -/
def colRow (g : List Int → Int) : List (List Int) → List Int
  | [] => []
  | x :: xr => (List.range x.length).map fun i => g (col (x :: xr) i)
theorem colD_map : ∀ (xs : List (List Int)) (i : Nat), colD (xs.map fun x => x.map D.int) i = (col xs i).map D.int
  | [], _ => rfl
  | x :: xs, i => by
    have ih := colD_map xs i
    unfold colD col at ih ⊢
    rw [List.map_cons, List.filterMap_cons, List.filterMap_cons, List.getElem?_map]
    cases e : x[i]? with
    | none => simpa using ih
    | some v => simp [ih]
theorem walks_rows {S : Store} : ∀ xs : List (List Int), ∃ Kp, walksD S (xs.map rD) = some (xs.map fun x => x.map D.int, Kp) ∧ ∀ T, Kp T
  | [] => ⟨_, rfl, fun _ => trivial⟩
  | x :: xs => by
    obtain ⟨Kp, h1, h2⟩ := walks_rows (S := S) xs
    refine ⟨fun T => True ∧ Kp T, ?_, fun T => ⟨trivial, h2 T⟩⟩
    rw [List.map_cons, walksD, h1]
    rfl
theorem col_ne {x : List Int} {xr : List (List Int)} {i : Nat} (h : i < x.length) : col (x :: xr) i ≠ [] := by
  unfold col
  rw [List.filterMap_cons, List.getElem?_eq_getElem h]
  exact fun z => nomatch z
theorem all_of {α β : Type} {f : Nat → β} {ys : List β} {n : Nat} (h1 : ys.length = n) (h2 : ∀ (i : Nat) (y : β), ys[i]? = some y → y = f i) : ys = (List.range n).map f := by
  refine List.ext_getElem? fun i => ?_
  by_cases hi : i < n
  · rw [List.getElem?_map, List.getElem?_range hi, List.getElem?_eq_getElem (by omega)]
    exact congrArg some (h2 i _ (List.getElem?_eq_getElem (by omega)))
  · rw [List.getElem?_eq_none (by omega), List.getElem?_eq_none (by rw [List.length_map, List.length_range]; omega)]
/-- the rows of zip(*xs) -/
theorem zip_rows {x : List Int} {xr : List (List Int)} (h8 : xr.length < 8) (hl : ∀ y ∈ xr, x.length ≤ y.length) {Q' : Pk → Store → Prop} (h : ∀ Kp, (∀ T, Kp T) → Q' (zipD ((x :: xr).map fun x => x.map D.int), Kp) S) : zipAns S ((x :: xr).map rD) Q' := by
  obtain ⟨Kp, h1, h2⟩ := walks_rows (S := S) (x :: xr)
  unfold zipAns
  rw [h1]
  refine ⟨by rw [List.length_map]; exact h8, fun y hy => ?_, h Kp h2⟩
  obtain ⟨z, hz, rfl⟩ := List.mem_map.mp hy
  rw [List.length_map, List.length_map]
  exact hl z hz
theorem zipD_get {x : List Int} {xr : List (List Int)} {i : Nat} {d : D} (h : (zipD ((x :: xr).map fun x => x.map D.int))[i]? = some d) : i < x.length ∧ d = rD (col (x :: xr) i) := by
  have e : zipD ((x :: xr).map fun x => x.map D.int) = (List.range x.length).map fun i => rD (col (x :: xr) i) := by
    rw [List.map_cons]
    show (List.range (x.map D.int).length).map (fun i => D.tup (colD (x.map D.int :: xr.map fun x => x.map D.int) i)) = _
    rw [List.length_map]
    refine List.map_congr_left fun j _ => ?_
    have z := colD_map (x :: xr) j
    rw [List.map_cons] at z
    rw [z]
    rfl
  rw [e, List.getElem?_map] at h
  by_cases hi : i < x.length
  · rw [List.getElem?_range hi] at h
    cases h
    exact ⟨hi, rfl⟩
  · rw [List.getElem?_eq_none (by rw [List.length_range]; omega)] at h
    cases h
theorem zipD_len {x : List Int} {xr : List (List Int)} : (zipD ((x :: xr).map fun x => x.map D.int)).length = x.length := by
  rw [List.map_cons]
  show ((List.range (x.map D.int).length).map _).length = _
  rw [List.length_map, List.length_range, List.length_map]
theorem one_at {g : List Int → Int} {ns : List Int} {k : D → Prop} (hn : ns ≠ []) (h : k (.int (g ns))) : fOne g [rD ns] S k := by
  unfold fOne rD
  dsimp only [asQ]
  rw [ints_map]
  exact ⟨hn, h⟩
theorem w_cols {g : List Int → Int} {x : List Int} {xr : List (List Int)} {it : Mr Pk} {k : Nat} {ρ : Mir.Env} (hx : x.length ≤ 1000) (h8 : xr.length < 8) (hl : ∀ y ∈ xr, x.length ≤ y.length) (hit : ∀ Q', zipAns S ((x :: xr).map rD) Q' → it ρ S Q' X)
    (hk : k < ρ.length) (h : Q (.lst ((colRow g (x :: xr)).map D.int)) S) : mLc it (.nm k) [k] mYes (mApp (fOne g) (mCons (mVar k) mNil)) ρ S Q X := by
  refine lc_all (zipD ((x :: xr).map fun x => x.map D.int)) (fun _ => True) (fun i y => i < x.length ∧ y = .int (g (col (x :: xr) i))) (fun Q' hq => hit Q' (zip_rows h8 hl fun Kp hK => ?_)) ?_ (fun _ _ _ => trivial) (fun l hl' i d hd acc Q' X' hq => ?_) fun ys h1 h2 => ?_
  · have e : Kp = fun _ => True := funext fun T => propext ⟨fun _ => trivial, fun _ => hK T⟩
    rw [e]
    exact hq
  · rw [zipD_len]; exact Nat.le_trans hx (by decide)
  · obtain ⟨hi, rfl⟩ := zipD_get hd
    show mApp (fOne g) (mCons (mVar k) mNil) ((wipM ρ [k]).set k (some (rD (col (x :: xr) i)))) _ Q' X'
    have e : ((wipM ρ [k]).set k (some (rD (col (x :: xr) i))))[k]? = some (some (rD (col (x :: xr) i))) := List.getElem?_set_self (by show k < (ρ.set k none).length; rw [List.length_set]; exact hk)
    simp only [mApp, mCons, mVar, mNil]
    rw [e]
    exact one_at (col_ne hi) (hq _ ⟨hi, rfl⟩)
  · have e : ys = (List.range x.length).map fun i => D.int (g (col (x :: xr) i)) := all_of (α := Int) (by rw [h1, zipD_len]) fun i y hy => (h2 i y hy).2
    rw [e]
    have e2 : (colRow g (x :: xr)).map D.int = (List.range x.length).map fun i => D.int (g (col (x :: xr) i)) := by unfold colRow; rw [List.map_map]; rfl
    rw [e2] at h
    exact h
def absI (i : Int) : Int := if i < 0 then -i else i
def gaps (x y : List Int) : List Int := (List.range x.length).map fun i => absI (y.getD i 0 - x.getD i 0)
theorem abs_at {d : Int} {k : D → Prop} (h : k (.int (absI d))) : fAbs [.int d] S k := h
/-- [abs(..) for a, b in zip(x, y)], two ways round -/
theorem w_gaps {x y : List Int} {it : Mr Pk} {i j : Nat} {ρ : Mir.Env} {e : Mr D} (hx : x.length ≤ 1000) (hl : x.length = y.length) (hit : ∀ Q', zipAns S [rD x, rD y] Q' → it ρ S Q' X)
    (he : ∀ (a b : Int) (S : Store) (Q' : D → Store → Prop) (X' : XC), Q' (.int (absI (b - a))) S → e (((wipM ρ [i, j]).set i (some (.int a))).set j (some (.int b))) S Q' X') (h : Q (.lst ((gaps x y).map D.int)) S) : mLc it (.tp [.nm i, .nm j]) [i, j] mYes e ρ S Q X := by
  refine lc_all (zipD ([x, y].map fun x => x.map D.int)) (fun _ => True) (fun k d => k < x.length ∧ d = .int (absI (y.getD k 0 - x.getD k 0))) (fun Q' hq => hit Q' (zip_rows (x := x) (xr := [y]) (show 1 < 8 by decide) (fun z hz => by cases List.mem_singleton.mp hz; omega) fun Kp hK => ?_)) ?_ (fun _ _ _ => trivial) (fun l hl' k d hd acc Q' X' hq => ?_) fun ys h1 h2 => ?_
  · have e : Kp = fun _ => True := funext fun T => propext ⟨fun _ => trivial, fun _ => hK T⟩
    rw [e]
    exact hq
  · rw [zipD_len]; exact Nat.le_trans hx (by decide)
  · obtain ⟨hk, rfl⟩ := zipD_get hd
    have e1 : x[k]? = some x[k] := List.getElem?_eq_getElem hk
    have e2 : y[k]? = some (y[k]'(by omega)) := List.getElem?_eq_getElem (by omega)
    have ec : col [x, y] k = [x[k], y[k]'(by omega)] := by
      unfold col
      rw [List.filterMap_cons, e1, List.filterMap_cons, e2]
      rfl
    rw [ec]
    have q := hq (.int (absI (y.getD k 0 - x.getD k 0))) ⟨hk, rfl⟩
    rw [List.getD_eq_getElem?_getD, List.getD_eq_getElem?_getD, e1, e2] at q
    exact he x[k] (y[k]'(by omega)) _ Q' X' q
  · have e3 : ys = (List.range x.length).map fun k => D.int (absI (y.getD k 0 - x.getD k 0)) := all_of (α := Int) (by rw [h1, zipD_len]) fun k d hd => (h2 k d hd).2
    rw [e3]
    have e4 : (gaps x y).map D.int = (List.range x.length).map fun k => D.int (absI (y.getD k 0 - x.getD k 0)) := by unfold gaps; rw [List.map_map]; rfl
    rw [e4] at h
    exact h
abbrev kv3 (s a l : D) : List (Key × D) := [(.inr "script", s), (.inr "at", a), (.inr "left", l)]
theorem ne1 : ¬ (("script" : Str) = "at") := by decide +kernel
theorem ne2 : ¬ (("script" : Str) = "left") := by decide +kernel
theorem ne3 : ¬ (("at" : Str) = "left") := by decide +kernel
theorem ne4 : ¬ (("left" : Str) = "at") := by decide +kernel
theorem lk1 {s a l : D} : look (kv3 s a l) (.inr "script" : Key) = some s := by simp [look, kv3]
theorem lk2 {s a l : D} : look (kv3 s a l) (.inr "at" : Key) = some a := by simp [look, kv3, List.find?_cons, ne1]
theorem lk3 {s a l : D} : look (kv3 s a l) (.inr "left" : Key) = some l := by simp [look, kv3, List.find?_cons, ne2, ne3]
theorem st2 {s a l x : D} : stor (kv3 s a l) (.inr "at" : Key) x = kv3 s x l := by simp [stor, kv3, ne1, ne4]
theorem st3 {s a l x : D} : stor (kv3 s a l) (.inr "left" : Key) x = kv3 s a x := by simp [stor, kv3, ne2, ne3]
theorem small3 {s a l : D} : small (kv3 s a l).length := show 3 ≤ 100000 by decide
theorem pys_ints : ∀ ns : List Int, pys (ns.map D.int) = some (ns.map PyData.int)
  | [] => rfl
  | n :: ns => by rw [List.map_cons, pys, pys_ints ns]; rfl
theorem can_ints : ∀ ns : List Int, PyData.canLayAll0 (ns.map PyData.int) = true
  | [] => rfl
  | n :: ns => by rw [List.map_cons, PyData.canLayAll0, can_ints ns]; rfl
theorem shaped_ints (ns : List Int) : SeqAt.shaped (.list (ns.map PyData.int)) = true := by
  unfold SeqAt.shaped
  rw [PyData.canLay0, can_ints, PyData.depth]
  have h := ints_depth ns
  simp
  omega
theorem ne_nil {ns : List Int} {k : D → Prop} (h : k (.bl (!ns.isEmpty))) : fNe (.frz (ns.map D.int)) (.lst []) S k := by
  simp only [fNe, fEqB, pyS, py, pys_ints, pys, Option.map_some]
  refine ⟨shaped_ints ns, by decide, ?_⟩
  cases ns with
  | nil => exact h
  | cons n ns => exact h
theorem fmod_ok {a m : Int} (h : 0 < m) : 0 ≤ a.fmod m ∧ a.fmod m < m := ⟨Int.fmod_nonneg_of_pos _ h, Int.fmod_lt_of_pos _ h⟩
theorem cm_f {a m j : Int} (h : 0 < m) (hm : m < 4611686018427387904) : CMul (a.fmod m) j := by
  obtain ⟨h1, h2⟩ := fmod_ok (a := a) h
  exact .inl ⟨by omega, by omega⟩
theorem ix_any {ns : List Int} {a : Int} {k : D → Prop} (hl : (0 : Int) < (ns.length : Int)) (h : ∀ c, k (.int c)) : fIx (.frz (ns.map D.int)) (.int (a.fmod (ns.length : Int))) S k := by
  obtain ⟨h1, h2⟩ := fmod_ok (a := a) hl
  have hi : (a.fmod (ns.length : Int)).toNat < ns.length := by omega
  have e : atI (ns.map D.int) (a.fmod (ns.length : Int)) = some (.int ns[(a.fmod (ns.length : Int)).toNat]) := atI_int h1 (by rw [List.getElem?_map, List.getElem?_eq_getElem hi]; rfl)
  unfold fIx
  dsimp only [asQ, asL]
  rw [e]
  exact h _
theorem seqIx {v : Int} {k : Nat} (h0 : 0 ≤ v) (h1 : v < k) : seqIndex? v k = some v.toNat := by
  unfold seqIndex?
  first
    | (simp; omega)
    | (rw [if_pos (by omega)]; simp; omega)
theorem ne_nil_ref {ns : List Int} {a : Nat} {k : D → Prop} (hS : S a = some (.lst (ns.map D.int))) (h : k (.bl (!ns.isEmpty))) : fNe (.ref a) (.lst []) S k := by
  simp only [fNe, fEqB, pyS, py, asL, hS, Option.bind_some, pys_ints, pys, Option.map_some]
  refine ⟨shaped_ints ns, by decide, ?_⟩
  cases ns with
  | nil => exact h
  | cons n ns => exact h
theorem erase_perm {α : Type} : ∀ {xs : List α} {i : Nat} {y : α}, xs[i]? = some y → (xs.eraseIdx i ++ [y]).Perm xs
  | [], _, _, h => by simp at h
  | x :: xs, 0, y, h => by
    simp at h
    subst h
    exact List.perm_append_comm
  | x :: xs, i + 1, y, h => (erase_perm (xs := xs) (i := i) (by simpa using h)).cons x
theorem lst_ref {a : Nat} {xs : List D} (h : S a = some (.lst xs)) : lstS S (.ref a) = some (a, xs) := by
  unfold lstS
  simp only [h, Option.bind_some]
theorem map_erase {α β : Type} {f : α → β} : ∀ (xs : List α) (i : Nat), (xs.map f).eraseIdx i = (xs.eraseIdx i).map f
  | [], _ => rfl
  | _ :: _, 0 => rfl
  | x :: xs, i + 1 => by
    show f x :: (xs.map f).eraseIdx i = f x :: (xs.eraseIdx i).map f
    rw [map_erase xs i]
theorem pop_at {ns : List Int} {v x : Int} (h0 : 0 ≤ v) (h1 : v < 1000000) (hx : ns[v.toNat]? = some x) : gPopAt (ns.map D.int) [.int v] = some (.int x, (ns.eraseIdx v.toNat).map D.int) := by
  have hl := (List.getElem?_eq_some_iff.mp hx).1
  unfold gPopAt
  simp only
  rw [if_pos ⟨h0, h1⟩, seqIx h0 (by rw [List.length_map]; omega)]
  simp only
  rw [List.getElem?_map, hx, map_erase]
  rfl
/-- pairs that rise -/
def asc : List Int → List C → Prop
  | _, [] => True
  | bef, c :: r => leT [c.i, c.j] bef = false ∧ asc [c.i, c.j] r
/-- the later wagon of a coupling, the earlier one -/
def chi (rk : Nat → Nat) (c : C) : Nat := if rk c.i.toNat < rk c.j.toNat then c.j.toNat else c.i.toNat
def par (rk : Nat → Nat) (c : C) : Nat := if rk c.i.toNat < rk c.j.toNat then c.i.toNat else c.j.toNat
theorem join_iff {a b x y : Int} : ((if x = b then a else x) = if y = b then a else y) ↔ (x = y ∨ ((x = a ∨ x = b) ∧ (y = a ∨ y = b))) := by
  by_cases h1 : x = b
  · by_cases h2 : y = b
    · rw [if_pos h1, if_pos h2]
      exact ⟨fun _ => .inl (h1.trans h2.symm), fun _ => rfl⟩
    · rw [if_pos h1, if_neg h2]
      constructor
      · intro e; exact .inr ⟨.inr h1, .inl e.symm⟩
      · rintro (e | ⟨_, e | e⟩)
        · exact absurd (e ▸ h1) h2
        · exact e.symm
        · exact absurd e h2
  · by_cases h2 : y = b
    · rw [if_neg h1, if_pos h2]
      constructor
      · intro e; exact .inr ⟨.inl e, .inr h2⟩
      · rintro (e | ⟨e | e, _⟩)
        · exact absurd (e.trans h2) h1
        · exact e
        · exact absurd e h1
    · rw [if_neg h1, if_neg h2]
      constructor
      · exact .inl
      · rintro (e | ⟨e | e, e' | e'⟩)
        · exact e
        · exact e.trans e'.symm
        · exact absurd e' h2
        · exact absurd e h1
        · exact absurd e h1
theorem joinN_iff {p c x y : Nat} : ((if x = c then p else x) = if y = c then p else y) ↔ (x = y ∨ ((x = p ∨ x = c) ∧ (y = p ∨ y = c))) := by
  have z := join_iff (a := (p : Int)) (b := c) (x := x) (y := y)
  constructor
  · intro h
    have q := z.mp (by by_cases h1 : x = c <;> by_cases h2 : y = c <;> simp [h1, h2] at h ⊢ <;> omega)
    omega
  · intro h
    have q := z.mpr (by omega)
    by_cases h1 : x = c <;> by_cases h2 : y = c <;> simp [h1, h2] at q ⊢ <;> omega
theorem okC_forest {n : Nat} {rk : Nat → Nat} : ∀ {Cs : List C} {ls bef : List Int} {f : Nat → Nat}, ls.length = n → (∀ c ∈ Cs, CR n c) → asc bef Cs → (∀ c ∈ Cs, rk c.i.toNat ≠ rk c.j.toNat) → (Cs.map (chi rk)).Nodup → (∀ c ∈ Cs, f (chi rk c) = chi rk c) → (∀ u, rk (f u) ≤ rk u) →
    (∀ (u w : Nat) (a b : Int), ls[u]? = some a → ls[w]? = some b → (a = b ↔ f u = f w)) → okC n ls bef Cs
  | [], _, _, _, _, _, _, _, _, _, _, _ => trivial
  | c :: r, ls, bef, f, hl, hR, hA, hk, hN, hF, hd, hi => by
    have R := hR c List.mem_cons_self
    have r1 := R.i0
    have r2 := R.ij
    have r3 := R.jn
    have k := hk c List.mem_cons_self
    have ei : ls[c.i.toNat]? = some (ls[c.i.toNat]'(by omega)) := List.getElem?_eq_getElem (by omega)
    have ej : ls[c.j.toNat]? = some (ls[c.j.toNat]'(by omega)) := List.getElem?_eq_getElem (by omega)
    generalize ls[c.i.toNat]'(by omega) = a at ei
    generalize ls[c.j.toNat]'(by omega) = b at ej
    have fc := hF c List.mem_cons_self
    -- the ends of the coupling are apart
    have two : (par rk c = c.i.toNat ∧ chi rk c = c.j.toNat) ∨ (par rk c = c.j.toNat ∧ chi rk c = c.i.toNat) := by
      unfold par chi
      by_cases h : rk c.i.toNat < rk c.j.toNat
      · rw [if_pos h, if_pos h]; exact .inl ⟨rfl, rfl⟩
      · rw [if_neg h, if_neg h]; exact .inr ⟨rfl, rfl⟩
    have less : rk (par rk c) < rk (chi rk c) := by
      unfold par chi
      by_cases h : rk c.i.toNat < rk c.j.toNat
      · rw [if_pos h, if_pos h]; exact h
      · rw [if_neg h, if_neg h];
            omega
    have apart : f (par rk c) ≠ chi rk c := fun e => by
      have z := hd (par rk c)
      rw [e] at z
      omega
    have hab : a ≠ b := fun e => by
      have z := (hi _ _ a b ei ej).mp e
      rcases two with ⟨t1, t2⟩ | ⟨t1, t2⟩
      · rw [← t1, ← t2, fc] at z; exact apart z
      · rw [← t1, ← t2, fc] at z; exact apart z.symm
    refine ⟨R, hA.1, a, b, ei, ej, hab, ?_⟩
    have nd : chi rk c ∉ r.map (chi rk) ∧ (r.map (chi rk)).Nodup := by rw [List.map_cons] at hN; exact List.nodup_cons.mp hN
    refine okC_forest (f := fun u => if f u = chi rk c then f (par rk c) else f u) (by unfold joined; rw [List.length_map]; exact hl) (fun d hd' => hR d (List.mem_cons_of_mem _ hd')) hA.2 (fun d hd' => hk d (List.mem_cons_of_mem _ hd')) nd.2 (fun d hd' => ?_) (fun u => ?_) fun u w x y hx hy => ?_
    · have z := hF d (List.mem_cons_of_mem _ hd')
      have ne : chi rk d ≠ chi rk c := fun e => nd.1 (by rw [← e]; exact List.mem_map_of_mem hd')
      rw [z, if_neg ne]
    · by_cases e : f u = chi rk c
      · rw [if_pos e]
        have z1 := hd (par rk c)
        have z2 := hd u
        rw [e] at z2
        omega
      · rw [if_neg e]
        exact hd u
    · unfold joined at hx hy
      rw [List.getElem?_map] at hx hy
      cases hu : ls[u]? with
      | none => rw [hu] at hx; cases hx
      | some x0 =>
        cases hw : ls[w]? with
        | none => rw [hw] at hy; cases hy
        | some y0 =>
          rw [hu] at hx
          rw [hw] at hy
          cases hx
          cases hy
          rw [join_iff, joinN_iff]
          have q0 := hi u w x0 y0 hu hw
          have qua := hi u _ x0 a hu ei
          have qub := hi u _ x0 b hu ej
          have qwa := hi w _ y0 a hw ei
          have qwb := hi w _ y0 b hw ej
          rcases two with ⟨t1, t2⟩ | ⟨t1, t2⟩
          · rw [← t1] at qua qwa
            rw [← t2, fc] at qub qwb
            rw [q0, qua, qub, qwa, qwb]
          · rw [← t2, fc] at qua qwa
            rw [← t1] at qub qwb
            rw [q0, qua, qub, qwa, qwb]
            constructor
            · rintro (e | ⟨e, e'⟩)
              · exact .inl e
              · exact .inr ⟨e.symm, e'.symm⟩
            · rintro (e | ⟨e, e'⟩)
              · exact .inl e
              · exact .inr ⟨e.symm, e'.symm⟩
theorem sum_add {f g : Nat → Int} : ∀ l : List Nat, (l.map f).sum + (l.map g).sum = (l.map fun i => f i + g i).sum
  | [] => rfl
  | a :: l => by
    have ih := sum_add (f := f) (g := g) l
    simp only [List.map_cons,
        List.sum_cons]
    omega
theorem sum_le {f g : Nat → Int} (h : ∀ i, f i ≤ g i) : ∀ l : List Nat, (l.map f).sum ≤ (l.map g).sum
  | [] => Int.le_refl _
  | a :: l => by
    have ih := sum_le h l
    have z := h a
    simp only [List.map_cons,
        List.sum_cons]
    omega
theorem col_two {x y : List Int} {i : Nat} (hi : i < x.length) (hl : x.length = y.length) : col [x, y] i = [x.getD i 0, y.getD i 0] := by
  have e1 : x[i]? = some x[i] := List.getElem?_eq_getElem hi
  have e2 : y[i]? = some (y[i]'(by omega)) := List.getElem?_eq_getElem (by omega)
  unfold col
  rw [List.filterMap_cons, e1, List.filterMap_cons, e2, List.getD_eq_getElem?_getD, List.getD_eq_getElem?_getD, e1, e2]
  rfl
theorem row_at {g : List Int → Int} {x y : List Int} {i : Nat} (hi : i < x.length) (hl : x.length = y.length) : (colRow g [x, y]).getD i 0 = g [x.getD i 0, y.getD i 0] := by
  unfold colRow
  rw [List.getD_eq_getElem?_getD, List.getElem?_map, List.getElem?_range hi]
  show g (col [x, y] i) = _
  rw [col_two hi hl]
theorem row_len {g : List Int → Int} {x : List Int} {xr : List (List Int)} : (colRow g (x :: xr)).length = x.length := by unfold colRow; rw [List.length_map, List.length_range]
theorem sum_congr {f g : Nat → Int} {n : Nat} (h : ∀ i, i < n → f i = g i) : ((List.range n).map f).sum = ((List.range n).map g).sum := by
  rw [List.map_congr_left fun i hi => h i (List.mem_range.mp hi)]
theorem absI_eq (i : Int) : (0 ≤ i ∧ absI i = i) ∨ (i < 0 ∧ absI i = -i) := by
  unfold absI
  by_cases h : i < 0
  · exact .inr ⟨h, if_pos h⟩
  · exact .inl ⟨by omega, if_neg h⟩
theorem min_two (a b : Int) : minL [a, b] = min a b := rfl
theorem max_two (a b : Int) : maxL [a, b] = max a b := rfl
theorem gaps_min {x y : List Int} (hl : x.length = y.length) : (gaps x (colRow minL [x, y])).sum + (gaps (colRow minL [x, y]) y).sum = (gaps x y).sum := by
  unfold gaps
  rw [row_len, sum_add]
  refine sum_congr fun i hi => ?_
  rw [row_at hi hl, min_two]
  have h1 := absI_eq (min (x.getD i 0) (y.getD i 0) - x.getD i 0)
  have h2 := absI_eq (y.getD i 0 - min (x.getD i 0) (y.getD i 0))
  have h3 := absI_eq (y.getD i 0 - x.getD i 0)
  omega
theorem gaps_max {x y : List Int} (hl : x.length = y.length) : (gaps x (colRow maxL [x, y])).sum + (gaps (colRow maxL [x, y]) y).sum = (gaps x y).sum := by
  unfold gaps
  rw [row_len, sum_add]
  refine sum_congr fun i hi => ?_
  rw [row_at hi hl, max_two]
  have h1 := absI_eq (max (x.getD i 0) (y.getD i 0) - x.getD i 0)
  have h2 := absI_eq (y.getD i 0 - max (x.getD i 0) (y.getD i 0))
  have h3 := absI_eq (y.getD i 0 - x.getD i 0)
  omega
theorem gaps_both {x y : List Int} (hl : x.length = y.length) : (gaps (colRow minL [x, y]) (colRow maxL [x, y])).sum = (gaps x y).sum := by
  unfold gaps
  rw [row_len]
  refine sum_congr fun i hi => ?_
  rw [row_at hi hl, row_at hi hl, min_two, max_two]
  have h1 := absI_eq (max (x.getD i 0) (y.getD i 0) - min (x.getD i 0) (y.getD i 0))
  have h3 := absI_eq (y.getD i 0 - x.getD i 0)
  omega
theorem gaps_comm {x y : List Int} (hl : x.length = y.length) : gaps y x = gaps x y := by
  unfold gaps
  rw [hl]
  refine List.map_congr_left fun i _ =>
      ?_
  have h1 := absI_eq (y.getD i 0 - x.getD i 0)
  have h3 := absI_eq (x.getD i 0 - y.getD i 0)
  omega
theorem gaps_tri {x y z : List Int} (h1 : x.length = y.length) : (gaps x z).sum ≤ (gaps x y).sum + (gaps y z).sum := by
  unfold gaps
  rw [← h1, sum_add]
  refine sum_le (fun i => ?_) _
  have h1 := absI_eq (z.getD i 0 - x.getD i 0)
  have h2 := absI_eq (y.getD i 0 - x.getD i 0)
  have h3 := absI_eq (z.getD i 0 - y.getD i 0)
  omega
/-- least and greatest of arrangements are arrangements -/
theorem arr_cols {W : List (Int × Int)} {Cs : List C} {g : List Int → Int} (Y : Yard W Cs) {x : List Int} {xr : List (List Int)} (A : ∀ y ∈ x :: xr, Arr W Cs y)
    (h1 : ∀ (ns : List Int), ns ≠ [] → g ns ∈ ns) (h2 : ∀ (ys : List (List Int)) (i j : Nat) (l u : Int), ys ≠ [] → (∀ y ∈ ys, i < y.length ∧ j < y.length ∧ l ≤ y.getD j 0 - y.getD i 0 ∧ y.getD j 0 - y.getD i 0 ≤ u) → l ≤ g (col ys j) - g (col ys i) ∧ g (col ys j) - g (col ys i) ≤ u) : Arr W Cs (colRow g (x :: xr)) := by
  have lx := (A x List.mem_cons_self).len
  have get : ∀ i v, (colRow g (x :: xr))[i]? = some v → i < x.length ∧ v = g (col (x :: xr) i) := fun i v hv => by
    unfold colRow at hv
    rw [List.getElem?_map] at hv
    by_cases hi : i < x.length
    · rw [List.getElem?_range hi] at hv
      cases hv
      exact ⟨hi, rfl⟩
    · rw [List.getElem?_eq_none (by rw [List.length_range]; omega)] at hv
      cases hv
  refine ⟨by rw [row_len, lx], fun i w v hw hv => ?_, fun c hc a b ha hb => ?_⟩
  · obtain ⟨hi, rfl⟩ := get i v hv
    have m := h1 _ (col_ne (xr := xr) hi)
    unfold col at m
    obtain ⟨y, hy, e⟩ := List.mem_filterMap.mp m
    exact (A y hy).w i w _ hw e
  · obtain ⟨hi, rfl⟩ := get _ a ha
    obtain ⟨hj, rfl⟩ := get _ b hb
    refine h2 (x :: xr) _ _ c.l c.g (fun z => nomatch z) fun y hy => ?_
    have ly := (A y hy).len
    have e1 : y[c.i.toNat]? = some (y[c.i.toNat]'(by omega)) := List.getElem?_eq_getElem (by omega)
    have e2 : y[c.j.toNat]? = some (y[c.j.toNat]'(by omega)) := List.getElem?_eq_getElem (by omega)
    obtain ⟨q1, q2⟩ := (A y hy).c c hc _ _ e1 e2
    rw [List.getD_eq_getElem?_getD, List.getD_eq_getElem?_getD, e1, e2]
    exact ⟨by omega, by omega, q1, q2⟩
theorem fold_min : ∀ (ns : List Int) (n : Int), (ns.foldl min n = n ∨ ns.foldl min n ∈ ns) ∧ ns.foldl min n ≤ n ∧ ∀ k ∈ ns, ns.foldl min n ≤ k
  | [], n => ⟨.inl rfl, Int.le_refl _, fun k hk => absurd hk List.not_mem_nil⟩
  | a :: ns, n => by
    obtain ⟨h1, h2, h3⟩ := fold_min ns (min n a)
    rw [List.foldl_cons]
    refine ⟨?_, by omega, fun k hk => ?_⟩
    · rcases h1 with e | e
      · rw [e]
        by_cases h : n ≤ a
        · exact .inl (by omega)
        · exact .inr (by rw [show min n a = a by omega]; exact List.mem_cons_self)
      · exact .inr (List.mem_cons_of_mem _ e)
    · rcases List.mem_cons.mp hk with e | hk
      · omega
      · exact h3 k hk
theorem fold_max : ∀ (ns : List Int) (n : Int), (ns.foldl max n = n ∨ ns.foldl max n ∈ ns) ∧ n ≤ ns.foldl max n ∧ ∀ k ∈ ns, k ≤ ns.foldl max n
  | [], n => ⟨.inl rfl, Int.le_refl _, fun k hk => absurd hk List.not_mem_nil⟩
  | a :: ns, n => by
    obtain ⟨h1, h2, h3⟩ := fold_max ns (max n a)
    rw [List.foldl_cons]
    refine ⟨?_, by omega, fun k hk => ?_⟩
    · rcases h1 with e | e
      · rw [e]
        by_cases h : a ≤ n
        · exact .inl (by omega)
        · exact .inr (by rw [show max n a = a by omega]; exact List.mem_cons_self)
      · exact .inr (List.mem_cons_of_mem _ e)
    · rcases List.mem_cons.mp hk with e | hk
      · omega
      · exact h3 k hk
theorem minL_mem : ∀ {ns : List Int}, ns ≠ [] → minL ns ∈ ns
  | [], h => absurd rfl h
  | n :: ns, _ => by
    rcases (fold_min ns n).1 with e | e
    · show ns.foldl min n ∈ n :: ns
      rw [e]; exact List.mem_cons_self
    · exact List.mem_cons_of_mem _ e
theorem minL_le : ∀ {ns : List Int} {k : Int}, k ∈ ns → minL ns ≤ k
  | [], k, h => absurd h List.not_mem_nil
  | n :: ns, k, h => by
    obtain ⟨_, h2, h3⟩ := fold_min ns n
    rcases List.mem_cons.mp
        h with e | h
    · rw [e]; exact h2
    · exact h3 k h
theorem maxL_mem : ∀ {ns : List Int}, ns ≠ [] → maxL ns ∈ ns
  | [], h => absurd rfl h
  | n :: ns, _ => by
    rcases (fold_max ns n).1 with e | e
    · show ns.foldl max n ∈ n :: ns
      rw [e]; exact List.mem_cons_self
    · exact List.mem_cons_of_mem _ e
theorem le_maxL : ∀ {ns : List Int} {k : Int}, k ∈ ns → k ≤ maxL ns
  | [], k, h => absurd h List.not_mem_nil
  | n :: ns, k, h => by
    obtain ⟨_, h2, h3⟩ := fold_max ns n
    rcases List.mem_cons.mp
        h with e | h
    · rw [e]; exact h2
    · exact h3 k h
theorem col_mem {ys : List (List Int)} {i : Nat} {v : Int} : v ∈ col ys i ↔ ∃ y ∈ ys, y[i]? = some v := by unfold col; exact List.mem_filterMap
/-- at two places whose difference lies between l and u -/
theorem cols_diff {g : List Int → Int} (hg : (g = minL) ∨ (g = maxL)) {ys : List (List Int)} {i j : Nat} {l u : Int} (hy : ys ≠ []) (h : ∀ y ∈ ys, i < y.length ∧ j < y.length ∧ l ≤ y.getD j 0 - y.getD i 0 ∧ y.getD j 0 - y.getD i 0 ≤ u) :
    l ≤ g (col ys j) - g (col ys i) ∧ g (col ys j) - g (col ys i) ≤ u := by
  obtain ⟨y0, m0⟩ := List.exists_mem_of_ne_nil _ hy
  have at_ : ∀ {y : List Int} {k : Nat}, k < y.length → y[k]? = some (y.getD k 0) := fun {y k} hk => by
    rw [List.getD_eq_getElem?_getD, List.getElem?_eq_getElem hk]; rfl
  have ne : ∀ k, k < y0.length → col ys k ≠ [] := fun k hk z => by
    have m := col_mem.mpr ⟨y0, m0, at_ hk⟩
    rw [z] at m
    exact List.not_mem_nil m
  obtain ⟨b1, b2, _⟩ := h y0 m0
  rcases hg with rfl | rfl
  · obtain ⟨p, hp, ep⟩ := col_mem.mp (minL_mem (ne i b1))
    obtain ⟨q, hq, eq⟩ := col_mem.mp (minL_mem (ne j b2))
    obtain ⟨p1, p2, p3, p4⟩ := h p hp
    obtain ⟨q1, q2, q3, q4⟩ := h q hq
    have x1 := minL_le (col_mem.mpr ⟨p, hp, at_ p2⟩)
    have x2 := minL_le (col_mem.mpr ⟨q, hq, at_ q1⟩)
    have x3 : minL (col ys i) = p.getD i 0 := by rw [at_ p1] at ep; exact (Option.some.inj ep).symm
    have x4 : minL (col ys j) = q.getD j 0 := by rw [at_ q2] at eq; exact (Option.some.inj eq).symm
    exact ⟨by omega, by omega⟩
  · obtain ⟨p, hp, ep⟩ := col_mem.mp (maxL_mem (ne i b1))
    obtain ⟨q, hq, eq⟩ := col_mem.mp (maxL_mem (ne j b2))
    obtain ⟨p1, p2, p3, p4⟩ := h p hp
    obtain ⟨q1, q2, q3, q4⟩ := h q hq
    have x1 := le_maxL (col_mem.mpr ⟨p, hp, at_ p2⟩)
    have x2 := le_maxL (col_mem.mpr ⟨q, hq, at_ q1⟩)
    have x3 : maxL (col ys i) = p.getD i 0 := by rw [at_ p1] at ep; exact (Option.some.inj ep).symm
    have x4 : maxL (col ys j) = q.getD j 0 := by rw [at_ q2] at eq; exact (Option.some.inj eq).symm
    exact ⟨by omega, by omega⟩
theorem arr_min {W : List (Int × Int)} {Cs : List C} (Y : Yard W Cs) {x : List Int} {xr : List (List Int)} (A : ∀ y ∈ x :: xr, Arr W Cs y) : Arr W Cs (colRow minL (x :: xr)) := arr_cols Y A (fun _ h => minL_mem h) fun _ _ _ _ _ h1 h2 => cols_diff (.inl rfl) h1 h2
theorem arr_max {W : List (Int × Int)} {Cs : List C} (Y : Yard W Cs) {x : List Int} {xr : List (List Int)} (A : ∀ y ∈ x :: xr, Arr W Cs y) : Arr W Cs (colRow maxL (x :: xr)) := arr_cols Y A (fun _ h => maxL_mem h) fun _ _ _ _ _ h1 h2 => cols_diff (.inr rfl) h1 h2
def rowC (c : C) : List Int := [c.i, c.j, c.l, c.g]
def datC (c : C) : PyData := .tuple ((rowC c).map .int)
theorem py_cD (c : C) : py (cD c) = some (datC c) := rfl
theorem pyO_cD (c : C) : pyO (cD c) = datC c := rfl
theorem pys_cD : ∀ Cs : List C, pys (Cs.map cD) = some (Cs.map datC)
  | [] => rfl
  | c :: Cs => by
    rw [List.map_cons, pys, pys_cD Cs, py_cD]
    rfl
theorem le_cD (a b : C) : PySem.W.dataLe false pyO (cD a) (cD b) = decide (rowC a ≤ rowC b) := by
  show (!PySem.W.dataLt (datC b) (datC a)) = _
  unfold datC
  rw [PySem.W.dataLt_tuple]
  show (!PySem.W.rowLt ((rowC b).map .int) ((rowC a).map .int)) = _
  rw [PySem.W.dataLt_ints]
  by_cases h : rowC b < rowC a
  · have h' : ¬ rowC a ≤ rowC b := fun r => List.not_lt.mpr r h
    simp [h, h']
  · have h' : rowC a ≤ rowC b := List.not_lt.mp h
    simp [h, h']
/-- the couplings in order -/
def sortC (Cs : List C) : List C := Cs.mergeSort fun a b => decide (rowC a ≤ rowC b)
theorem sort_cD (Cs : List C) : sortD (Cs.map cD) = (sortC Cs).map cD := by
  unfold sortD sortC
  rw [List.map_mergeSort (r := fun a b => decide (rowC a ≤ rowC b)) (s := PySem.W.dataLe false pyO)]
  intro a _ b _
  exact (le_cD a b).symm
theorem sortC_perm (Cs : List C) : (sortC Cs).Perm Cs := List.mergeSort_perm _ _
theorem sortC_le (Cs : List C) : (sortC Cs).Pairwise fun a b => rowC a ≤ rowC b := by
  have z := List.pairwise_mergeSort (le := fun a b : C => decide (rowC a ≤ rowC b)) (fun a b c h1 h2 => by
    simp only [decide_eq_true_eq] at h1 h2 ⊢
    exact List.le_trans h1 h2) (fun a b => by
    simp only [Bool.or_eq_true, decide_eq_true_eq]
    exact List.le_total _ _) Cs
  exact z.imp fun h => by simpa using h
def before (a b : C) : Prop := a.i < b.i ∨ (a.i = b.i ∧ a.j < b.j)
theorem before_of {a b : C} (h : rowC a ≤ rowC b) (hn : (a.i, a.j) ≠ (b.i, b.j)) : before a b := by
  unfold rowC at h
  rw [List.cons_le_cons_iff, List.cons_le_cons_iff] at h
  unfold before
  rcases h with h | ⟨h1, h | ⟨h2, _⟩⟩
  · exact .inl h
  · exact .inr ⟨h1, h⟩
  · exact absurd (Prod.ext h1 h2) hn
theorem not_leT {a b : C} (h : before a b) : leT [b.i, b.j] [a.i, a.j] = false := by
  unfold before at h
  unfold leT
  simp [Ob.lexAt]
  by_cases e : b.i = a.i
  · rw [if_pos e]
    omega
  · rw [if_neg e]
    omega
theorem asc_of : ∀ {Cs : List C} {bef : List Int}, (∀ c, Cs.head? = some c → leT [c.i, c.j] bef = false) → Cs.Pairwise before → asc bef Cs
  | [], _, _, _ => trivial
  | c :: r, bef, h, hp => by
    have hp' :=
        List.pairwise_cons.mp hp
    refine ⟨h c rfl, asc_of (fun d hd => not_leT (hp'.1 d (List.mem_of_head? hd))) hp'.2⟩
theorem not_leT0 (a b : Int) : leT [a, b] [] = false := by
  unfold leT
  simp [Ob.lexAt]
/-- a yard, its couplings put into order -/
theorem yard_sorted {W : List (Int × Int)} {Cs : List C} {rk : Nat → Nat} (V : VW W) (hR : ∀ c ∈ Cs, CR W.length c) (hk : ∀ c ∈ Cs, rk c.i.toNat ≠ rk c.j.toNat) (hN : (Cs.map (chi rk)).Nodup) : Yard W (sortC Cs) := by
  have P := sortC_perm Cs
  have hN' : ((sortC Cs).map (chi rk)).Nodup := (P.map (chi rk)).nodup_iff.mpr hN
  refine ⟨V, okC_forest (rk := rk) (f := id) (by simp) (fun c hc => hR c (P.mem_iff.mp hc)) (asc_of (fun c _ => not_leT0 _ _) ?_) (fun c hc => hk c (P.mem_iff.mp hc)) hN' (fun _ _ => rfl) (fun _ => Nat.le_refl _) fun u w a b ha hb => ?_⟩
  · have q : (sortC Cs).Pairwise fun a b => (a.i, a.j) ≠ (b.i, b.j) := by
      have z := List.pairwise_map.mp hN'
      refine z.imp fun {a b} h e => h ?_
      have e1 : a.i = b.i := congrArg Prod.fst e
      have e2 : a.j = b.j := congrArg Prod.snd e
      unfold chi
      rw [e1, e2]
    exact ((sortC_le Cs).and q).imp fun h => before_of h.1 h.2
  · rw [List.getElem?_map] at ha hb
    have hu : u < W.length := by
      by_cases h : u < W.length
      · exact h
      · rw [List.getElem?_eq_none (by rw [List.length_range]; omega)] at ha
        cases ha
    have hw : w < W.length := by
      by_cases h : w < W.length
      · exact h
      · rw [List.getElem?_eq_none (by rw [List.length_range]; omega)] at hb
        cases hb
    rw [List.getElem?_range hu] at ha
    rw [List.getElem?_range hw] at hb
    cases ha
    cases hb
    show (u : Int) = (w : Int) ↔ u = w
    omega
theorem alike_datC (a b : C) : PySem.W.alike (datC a) (datC b) = true := by
  unfold datC rowC
  simp [PySem.W.alike, PySem.W.alikeAll]
theorem k_sorted {S : Store} {d : D} {Cs : List C} {k : D → Prop} (hd : asL S d = some (Cs.map cD)) (h : k (.lst ((sortC Cs).map cD))) : fSorted [d] S k := by
  refine ⟨_, _, hd, pys_cD Cs, ?_, .inl ?_, ?_, ?_⟩
  · intro p hp q hq
    obtain ⟨a, _, rfl⟩ := List.mem_map.mp hp
    obtain ⟨b, _, rfl⟩ := List.mem_map.mp hq
    exact alike_datC a b
  · intro p hp
    obtain ⟨a, _, rfl⟩ := List.mem_map.mp hp
    exact ⟨_, _, rfl⟩
  · intro p hp
    obtain ⟨a, _, rfl⟩ := List.mem_map.mp hp
    unfold datC
    rw [PyData.depth, PySem.W.depth_ints]
    omega
  · rw [sort_cD]
    exact h
/-- sorted([a, b]) -/
theorem k_sorted2 {S : Store} {a b : Int} {k : D → Prop} (h : k (.lst [.int (min a b), .int (max a b)])) : fSorted [.lst [.int a, .int b]] S k := by
  refine ⟨_, _, rfl, rfl, ?_, .inr ?_, ?_, ?_⟩
  · intro p hp q hq
    simp at hp hq
    rcases hp with rfl | rfl <;> rcases hq with rfl | rfl <;> simp [PySem.W.alike]
  · intro p hp
    simp at hp
    rcases hp with rfl | rfl <;> simp
  · intro p hp
    simp at hp
    rcases hp with rfl | rfl <;> simp [PyData.depth]
  · have e : sortD [.int a, .int b] = [.int (min a b), .int (max a b)] := by
      have z : sortD ([a, b].map D.int) = ([a, b].mergeSort fun x y => decide (x ≤ y)).map D.int := by
        unfold sortD
        rw [List.map_mergeSort (r := fun x y : Int => decide (x ≤ y)) (s := PySem.W.dataLe false pyO)]
        intro x _ y _
        have q := congrFun (congrFun (PySem.W.dataLe_int (β := Int) id) x) y
        exact q.symm
      refine (show sortD [.int a, .int b] = _ from z).trans ?_
      by_cases hab : a ≤ b
      · simp [List.mergeSort, List.MergeSort.Internal.splitInTwo, List.merge, hab]
        omega
      · simp [List.mergeSort, List.MergeSort.Internal.splitInTwo, List.merge, hab]
        omega
    rw [e]
    exact h
structure Sm (w k : Nat) (d : PyData) : Prop where
  sh : d.leavesShort 13 = true
  ss : d.showable = true
  wt : d.weight ≤ w
  dp : d.depth ≤ k
theorem Sm.int {i : Int} (h : i.natAbs < 1000000000000) : Sm 40 0 (.int i) := by
  refine ⟨?_, ?_, ?_, ?_⟩
  · have z := PyData.shown_int_le (i := i) h
    simp only [PyData.leavesShort, decide_eq_true_eq]
    exact z
  · simp only [PyData.showable, decide_eq_true_eq]
    by_cases e : i.natAbs = 0
    · rw [e]; decide
    · exact (Nat.log2_lt e).mpr (Nat.lt_trans h (Nat.lt_of_lt_of_le (show 1000000000000 < 2 ^ 40 by decide) (Nat.pow_le_pow_right (by decide) (by decide))))
  · rw [PyData.weight]
    by_cases e : i.natAbs = 0
    · have e0 : i = 0 := by omega
      rw [e0]; decide
    · have z := (Nat.log2_lt e).mpr (Nat.lt_of_lt_of_le h (show 1000000000000 ≤ 2 ^ 40 by decide))
      split <;> omega
  · rw [PyData.depth]; exact Nat.le_refl _
theorem Sm.all : ∀ {xs : List PyData} {w k : Nat}, (∀ x ∈ xs, Sm w k x) → PyData.leavesShortAll 13 xs = true ∧ PyData.showableAll xs = true ∧ PyData.weightAll xs ≤ xs.length * (w + 1) ∧ PyData.depthAll xs ≤ k
  | [], w, k, _ => ⟨rfl, rfl, by simp [PyData.weightAll], by simp [PyData.depthAll]⟩
  | x :: xs, w, k, h => by
    obtain ⟨a, b, c, d⟩ := h x List.mem_cons_self
    obtain ⟨a', b', c', d'⟩ := Sm.all fun y hy => h y (List.mem_cons_of_mem _ hy)
    refine ⟨?_, ?_, ?_, ?_⟩
    · rw [PyData.leavesShortAll, a, a']; rfl
    · rw [PyData.showableAll, b, b']; rfl
    · rw [PyData.weightAll, List.length_cons, Nat.succ_mul]; omega
    · rw [PyData.depthAll]; omega
theorem Sm.tup {xs : List PyData} {w k : Nat} (n : Nat) (h : ∀ x ∈ xs, Sm w k x) (hn : xs.length ≤ n) : Sm (n * (w + 1)) (k + 1) (.tuple xs) := by
  obtain ⟨a, b, c, d⟩ := Sm.all h
  have m := Nat.mul_le_mul_right (w + 1) hn
  refine ⟨?_, ?_, ?_, ?_⟩
  · rw [PyData.leavesShort]; exact a
  · rw [PyData.showable]; exact b
  · rw [PyData.weight]; omega
  · rw [PyData.depth]; omega
theorem Sm.lst {xs : List PyData} {w k : Nat} (n : Nat) (h : ∀ x ∈ xs, Sm w k x) (hn : xs.length ≤ n) : Sm (n * (w + 1)) (k + 1) (.list xs) := by
  obtain ⟨a, b, c, d⟩ := Sm.all h
  have m := Nat.mul_le_mul_right (w + 1) hn
  refine ⟨?_, ?_, ?_, ?_⟩
  · rw [PyData.leavesShort]; exact a
  · rw [PyData.showable]; exact b
  · rw [PyData.weight]; omega
  · rw [PyData.depth]; omega
theorem Sm.mono {d : PyData} {w k w' k' : Nat} (h : Sm w k d) (hw : w ≤ w') (hk : k ≤ k') : Sm w' k' d := ⟨h.sh, h.ss, Nat.le_trans h.wt hw, Nat.le_trans h.dp hk⟩
theorem k_repr {d : D} {p : PyData} {w k : Nat} {K : D → Prop} (hp : pyS S d = some p) (h : Sm w k p) (hw : w ≤ 1048576) (hk : k ≤ 50) (q : K (.str p.shown)) : fRepr [d] S K := by
  unfold fRepr
  simp only [hp]
  exact ⟨h.ss, Nat.le_trans h.dp hk, PyData.shown_fits (B := 13) (by decide) (by decide) h.sh (Nat.le_trans h.wt hw), q⟩
/-- a yard, an arrangement as data -/
def wP (w : Int × Int) : PyData := .tuple ([w.1, w.2].map .int)
def yP (W : List (Int × Int)) (Cs : List C) : PyData := .tuple [.tuple (W.map wP), .tuple (Cs.map datC)]
def rP (x : List Int) : PyData := .tuple (x.map .int)
theorem py_w : ∀ W : List (Int × Int), pys (W.map wD) = some (W.map wP)
  | [] => rfl
  | w :: W => by
    rw [List.map_cons, pys, py_w W]
    rfl
theorem py_y (W : List (Int × Int)) (Cs : List C) : py (yD W Cs) = some (yP W Cs) := by
  unfold yD yP
  rw [py, pys, pys, pys, py, py, py_w, pys_cD]
  rfl
theorem py_r (x : List Int) : py (rD x) = some (rP x) := by
  unfold rD rP
  rw [py, pys_ints]
  rfl
theorem pys_r : ∀ xs : List (List Int), pys (xs.map rD) = some (xs.map rP)
  | [] => rfl
  | x :: xs => by
    rw [List.map_cons, pys, pys_r xs, py_r]
    rfl
theorem Sm.ints {xs : List Int} {n : Nat} (h : ∀ x ∈ xs, x.natAbs < 1000000000000) (hn : xs.length ≤ n) : Sm (n * 41) 1 (.tuple (xs.map .int)) := by
  refine Sm.tup (w := 40) (k := 0) n (fun p hp => ?_) (by rw [List.length_map]; exact hn)
  obtain ⟨x, hx, rfl⟩ := List.mem_map.mp hp
  exact Sm.int (h x hx)
theorem ccard {n : Nat} {rk : Nat → Nat} : ∀ {Cs : List C}, True := trivial
theorem sm_r {W : List (Int × Int)} {Cs : List C} {x : List Int} (Y : Yard W Cs) (A : Arr W Cs x) : Sm 2000 1 (rP x) := by
  have hl := A.len
  have hW := Y.w.hi
  refine (Sm.ints (n := 40) (fun v hv => ?_) (by omega)).mono (by decide) (by decide)
  obtain ⟨i, hi, e⟩ := List.mem_iff_getElem.mp hv
  have e1 : x[i]? = some v := by rw [List.getElem?_eq_getElem hi, e]
  have e2 : W[i]? = some (W[i]'(by omega)) := List.getElem?_eq_getElem (by omega)
  obtain ⟨a, b⟩ := A.w i _ _ e2 e1
  obtain ⟨c1, c2, c3⟩ := Y.w.ok _ (List.mem_of_getElem? e2)
  omega
theorem sm_y {W : List (Int × Int)} {Cs : List C} (Y : Yard W Cs) (hC : Cs.length ≤ 100) : Sm 50000 3 (yP W Cs) := by
  have hW := Y.w.hi
  have h1 : Sm (100 * 165) 2 (.tuple (W.map wP)) := by
    refine Sm.tup (w := 164) (k := 1) 100 (fun p hp => ?_) (by rw [List.length_map]; omega)
    obtain ⟨w, hw, rfl⟩ := List.mem_map.mp hp
    obtain ⟨c1, c2, c3⟩ := Y.w.ok w hw
    refine (Sm.ints (xs := [w.1, w.2]) (n := 4) (fun v hv => ?_) (by simp)).mono (by decide) (by decide)
    simp at hv
    rcases hv with rfl | rfl <;> omega
  have h2 : Sm (100 * 165) 2 (.tuple (Cs.map datC)) := by
    refine Sm.tup (w := 164) (k := 1) 100 (fun p hp => ?_) (by rw [List.length_map]; omega)
    obtain ⟨c, hc, rfl⟩ := List.mem_map.mp hp
    have R := okC_CR Y.c c hc
    have r1 := R.i0
    have r2 := R.ij
    have r3 := R.jn
    have r4 := R.l0
    have r5 := R.lg
    have r6 := R.g0
    refine (Sm.ints (xs := [c.i, c.j, c.l, c.g]) (n := 4) (fun v hv => ?_) (by simp)).mono (by decide) (by decide)
    simp at hv
    rcases hv with rfl | rfl | rfl | rfl <;> omega
  refine (Sm.tup (w := 16500) (k := 2) 2 (xs := [.tuple (W.map wP), .tuple (Cs.map datC)]) (fun p hp => ?_) (by simp)).mono (by decide) (by decide)
  simp at hp
  rcases hp with rfl | rfl
  · exact h1
  · exact h2
end Yd
end

section
set_option Elab.async false
set_option linter.all false
set_option maxRecDepth 100000
set_option maxHeartbeats 4001000
namespace K55
open PySem L2 Mir Yd
variable {S : Store} {Q : D → Store → Prop} {X : XC}
theorem w_tuple {xs : List D} {n : Int} (h : Q (.bl (decide ((xs.length : Int) = n))) S) : mis_tuple_of [.tup xs, .int n] S Q X := by
  unfold mis_tuple_of
  and_intros
  exact cut_self h
theorem w_int {v lo hi : Int} (h : Q (.bl (decide (lo ≤ v) && decide (v ≤ hi))) S) : mis_integer_from [.int v, .int lo, .int hi] S Q X := by
  unfold mis_integer_from mis_integer
  and_intros
  refine cut_self ?_
  and_intros
  by_cases h1 : lo ≤ v
  · rw [decide_eq_true h1, Bool.true_and] at h
    simp only [decide_eq_true h1]
    exact cut_self h
  · rw [decide_eq_false h1, Bool.false_and] at h
    simp only [decide_eq_false h1]
    exact cut_self h
theorem w_int_ok {v lo hi : Int} (h1 : lo ≤ v) (h2 : v ≤ hi) (h : Q (.bl true) S) : mis_integer_from [.int v, .int lo, .int hi] S Q X := w_int (by rw [decide_eq_true h1, decide_eq_true h2]; exact h)
theorem w_tuple_ok {xs : List D} {n : Int} (e : (xs.length : Int) = n) (h : Q (.bl true) S) : mis_tuple_of [.tup xs, .int n] S Q X := w_tuple (by rw [decide_eq_true e]; exact h)
theorem w_pair {p : Int × Int} (h1 : -1000000000 ≤ p.1) (h2 : p.1 ≤ p.2) (h3 : p.2 ≤ 1000000000) (h : Q (.bl true) S) : m_is_pair_of_places [wD p] S Q X := by
  unfold m_is_pair_of_places wD
  and_intros
  refine w_tuple_ok rfl ?_
  and_intros
  refine w_int_ok (by omega) (by omega) ?_
  and_intros
  refine w_int_ok (by omega) (by omega) ?_
  and_intros
  rw [decide_eq_true h2]
  exact cut_self h
theorem w_check_pairs {W : List (Int × Int)} (V : VW W) (h : Q .non S) : m_check_pairs [.tup (W.map wD)] S Q X := by
  unfold m_check_pairs
  and_intros
  have h1 := V.lo
  have h2 := V.hi
  rw [List.length_map, decide_eq_true (show (1 : Int) ≤ (W.length : Int) by omega), decide_eq_true (show (W.length : Int) ≤ 40 by omega)]
  and_intros
  refine for_inv0 (fun _ ρ S' => S' = S ∧ ρ.length = 3) ⟨rfl, rfl⟩ (fun _ _ _ _ => trivial) (fun i d ρ S' N hd hI hN => ?_) fun ρ S' hI => ?_
  · obtain ⟨rfl, hl⟩ := hI
    obtain ⟨x, hx, rfl⟩ := enD_get.mp hd
    rw [List.getElem?_map] at hx
    cases hp : W[i]? with
    | none => rw [hp] at hx; cases hx
    | some p =>
      rw [hp] at hx; cases hx
      obtain ⟨k1, k2, k3⟩ := V.ok p (List.mem_of_getElem? hp)
      match ρ, hl with
      | [a, b, c], _ =>
        and_intros
        refine w_pair k1 k2 k3 ?_
        and_intros
        exact hN _ _ ⟨rfl, rfl⟩
  · obtain ⟨rfl, _⟩ := hI
    exact cut_self h
theorem w_coupling {n : Int} {c : C} (R : CR n c) (h : Q (.bl true) S) : m_is_coupling [cD c, .int n] S Q X := by
  obtain ⟨h1, h2, h3, h4, h5, h6⟩ := R
  unfold m_is_coupling cD
  and_intros
  refine w_tuple_ok rfl ?_
  and_intros
  refine ⟨by unfold small; omega, ?_⟩
  and_intros
  refine w_int_ok (by omega) (by omega) ?_
  and_intros
  refine w_int_ok (by omega) (by omega) ?_
  and_intros
  refine ⟨by unfold small; omega, ?_⟩
  and_intros
  refine w_int_ok (by omega) (by omega) ?_
  and_intros
  refine w_int_ok (by omega) (by omega) ?_
  and_intros
  rw [decide_eq_true h2, decide_eq_true h5]
  and_intros
  exact cut_self h
theorem w_joined {ls : List Int} {a b : Int} (hl : ls.length ≤ 1000) (h : Q (.lst ((joined ls a b).map D.int)) S) : m_joined [.lst (ls.map D.int), .int a, .int b] S Q X := by
  unfold m_joined
  and_intros
  refine lc_all (ls.map D.int) (fun _ => True) (fun i y => ∃ x, ls[i]? = some x ∧ y = .int (if x = b then a else x)) (fun Q' hq => ?_) (by unfold small; rw [List.length_map]; omega) (fun _ _ _ => trivial) (fun l hl i d hd acc Q' X' hq => ?_) fun ys h1 h2 => ?_
  · and_intros
    exact hq
  · rw [List.getElem?_map] at hd
    cases hx : ls[i]? with
    | none => rw [hx] at hd; cases hd
    | some x =>
      rw [hx] at hd; cases hd
      and_intros
      have q := hq (.int (if x = b then a else x)) ⟨x, hx, rfl⟩
      by_cases e : x = b
      · rw [if_pos e] at q
        rw [decide_eq_true e]
        exact q
      · rw [if_neg e] at q
        rw [decide_eq_false e]
        exact q
  · have e : ys = (joined ls a b).map D.int := by
      refine List.ext_getElem? fun i => ?_
      unfold joined
      rw [List.getElem?_map,
          List.getElem?_map]
      cases hy : ys[i]? with
      | none =>
        have z : ls[i]? = none := List.getElem?_eq_none (by have := List.getElem?_eq_none_iff.mp hy; rw [List.length_map] at h1; omega)
        rw [z]; rfl
      | some y =>
        obtain ⟨x, hx, rfl⟩ := h2 i y hy
        rw [hx]; rfl
    rw [e]
    exact cut_self h
theorem w_check_couplings {n : Nat} {Cs : List C} (hn : n ≤ 40) (V : okC n ((List.range n).map fun (i : Nat) => (i : Int)) [] Cs) (h : Q .non S) : m_check_couplings [.tup (Cs.map cD), .int n] S Q X := by
  unfold m_check_couplings
  and_intros
  refine ⟨⟨by omega, by omega⟩, ?_⟩
  have el : rgD 0 ((n : Int) - 0).toNat = ((List.range n).map fun (i : Nat) => (i : Int)).map D.int := by
    unfold rgD
    have e : ((n : Int) - 0).toNat = n := by omega
    rw [e, List.map_map]
    refine List.map_congr_left fun i _ =>
        ?_
    show D.int (0 + (i : Int)) = D.int i
    rw [Int.zero_add]
  rw [el]
  refine ⟨by unfold small; omega, ?_⟩
  refine for_inv0 (fun i ρ S' => S' = S ∧ ∃ ls bef a1 a2 a3 a4 a5, ρ = [some (.tup (Cs.map cD)), some (.int n), some (.lst (ls.map D.int)), some (.tup (bef.map D.int)), a1, a2, a3, a4, a5] ∧ ls.length ≤ 1000 ∧ okC n ls bef (Cs.drop i))
    ⟨rfl, _, [], none, none, none, none, none, rfl, by simp; omega, V⟩ (fun _ _ _ _ => trivial) (fun i d ρ S' N hd hI hN => ?_) fun ρ S' hI => ?_
  · obtain ⟨rfl, ls, bef, a1, a2, a3, a4, a5, rfl, hl, hok⟩ := hI
    obtain ⟨x, hx, rfl⟩ := enD_get.mp hd
    rw [List.getElem?_map] at hx
    cases hc : Cs[i]? with
    | none => rw [hc] at hx; cases hx
    | some c =>
      rw [hc] at hx; cases hx
      have hi := (List.getElem?_eq_some_iff.mp hc).1
      rw [List.drop_eq_getElem_cons hi] at hok
      have ec : Cs[i] = c := (List.getElem?_eq_some_iff.mp hc).2
      rw [ec] at hok
      obtain ⟨R, h1, a, b, h2, h3, h4, h5⟩ := hok
      and_intros
      refine w_coupling R ?_
      unfold cD
      and_intros
      refine cut_two ?_
      and_intros
      rw [ints_map]
      have e2 : intsD [D.int c.i, D.int c.j] = some [c.i, c.j] := rfl
      rw [e2]
      and_intros
      rw [h1]
      and_intros
      have e3 : atI (ls.map D.int) c.i = some (.int a) := atI_int R.i0 (by rw [List.getElem?_map, h2]; rfl)
      have e4 : atI (ls.map D.int) c.j = some (.int b) := atI_int (by have := R.ij; have := R.i0; omega) (by rw [List.getElem?_map, h3]; rfl)
      rw [e3, e4]
      and_intros
      rw [decide_eq_false h4]
      and_intros
      refine w_joined hl ?_
      and_intros
      exact hN _ _ ⟨rfl, joined ls a b, [c.i, c.j], _, _, _, _, _, rfl, by unfold joined; rw [List.length_map]; exact hl, h5⟩
  · obtain ⟨rfl, _⟩ := hI
    exact cut_self h
theorem w_validate {W : List (Int × Int)} {Cs : List C} (Y : Yard W Cs) (h : Q .non S) : mvalidate_yard [yD W Cs] S Q X := by
  unfold mvalidate_yard yD
  and_intros
  refine w_tuple_ok rfl ?_
  and_intros
  refine w_check_pairs Y.w ?_
  and_intros
  rw [List.length_map]
  refine w_check_couplings Y.w.hi Y.c ?_
  and_intros
  exact cut_self h
end K55
end

section
set_option Elab.async false
set_option linter.all false
set_option maxRecDepth 100000
set_option maxHeartbeats 401000
/-! Texts of integers: written, cut, read. -/
namespace Tx
open PySem L2 Mir PySem.NumText
abbrev num (i : Int) : Str := Str.ofString (toString i)
theorem tl_neg (n : Nat) : TL.tl (num (Int.negSucc n)) = 45 :: TL.numL (n + 1) := by
  have e : toString (Int.negSucc n) = "-" ++ toString ((n + 1 : Nat) : Int) := rfl
  show TL.tl (Str.ofString (toString (Int.negSucc n))) = _
  rw [e, TL.tl_ofString, String.toList_append, List.map_append, ← TL.tl_ofString, ← TL.tl_ofString, TL.tl_num]
  rfl
theorem tl_pos (n : Nat) : TL.tl (num (n : Int)) = TL.numL n := TL.tl_num n
/-- the signs of an integer -/
theorem num_cases (i : Int) : (∃ n : Nat, i = n ∧ TL.tl (num i) = TL.numL n) ∨ (∃ n : Nat, i = -(n : Int) ∧ TL.tl (num i) = 45 :: TL.numL n) := by
  cases i with
  | ofNat n => exact .inl ⟨n, rfl, tl_pos n⟩
  | negSucc n => exact .inr ⟨n + 1, rfl, tl_neg n⟩
theorem num_len {i : Int} (h : i.natAbs < 10 ^ 11) : (num i).length ≤ 12 := by
  rw [TL.len_tl]
  rcases num_cases i with ⟨n, rfl, e⟩ | ⟨n, rfl, e⟩
  · rw [e]
    have := TL.numL_len (n := n) (k := 11) (by decide) (by simpa using h)
    omega
  · rw [e, List.length_cons]
    have := TL.numL_len (n := n) (k := 11) (by decide) (by simpa using h)
    omega
theorem num_read {i : Int} (h : i.natAbs < 10 ^ 11) : intText? (num i) = some i := by
  rcases num_cases i with ⟨n, rfl, e⟩ | ⟨n, rfl, e⟩
  · refine TL.int_num ?_
    have := TL.numL_len (n := n) (k := 11) (by decide) (by simpa using h)
    omega
  · have hl := num_len h
    have z := intText_neg (x := num (-(n : Int))) e (TL.numL_digits n) (TL.numL_ne n) (by omega)
    rw [z, TL.numL_val]
theorem num_free {i : Int} {c : Nat} (h : c < 45 ∨ 57 < c) : c ∉ TL.tl (num i) := fun hm => by
  rcases num_cases i with ⟨n, rfl, e⟩ | ⟨n, rfl, e⟩
  · rw [e] at hm
    exact TL.numL_free (by omega) hm
  · rw [e] at hm
    rcases List.mem_cons.mp hm with z | z
    · omega
    · exact TL.numL_free (by omega) z
theorem sub_first (x : Str) : Builtin.Str.subAt x "-" 0 = decide ((TL.tl x).take 1 = [45]) := by
  have ly : ("-" : Str).length = 1 := by decide +kernel
  have lc : ("-" : Str).cps.toList = [45] := by decide +kernel
  unfold Builtin.Str.subAt
  rw [ly]
  have e : (x.cps.extract 0 (0 + 1)).toList = (TL.tl x).take 1 := by simp [Array.toList_extract]
  by_cases h : (TL.tl x).take 1 = [45]
  · rw [decide_eq_true h]
    have : x.cps.extract 0 (0 + 1) = ("-" : Str).cps := Array.toList_inj.mp (by rw [e, lc]; exact h)
    rw [this]
    simp
  · rw [decide_eq_false h]
    cases q : (x.cps.extract 0 (0 + 1) == ("-" : Str).cps) with
    | false => rfl
    | true =>
      have := eq_of_beq q
      exact absurd (by rw [← e, this, lc]) h
theorem num_dec (i : Int) : Txt.isdecimal (Txt.removeprefix (num i) "-") = true := by
  have dig : ∀ {n : Nat} {x : Str}, TL.tl x = TL.numL n → Txt.isdecimal x = true := fun {n x} e => by
    unfold Txt.isdecimal
    have h1 : x.length > 0 := by
      rw [TL.len_tl, e]
      exact List.length_pos_iff.mpr (TL.numL_ne n)
    rw [decide_eq_true h1, Bool.true_and, ← Array.all_toList, List.all_eq_true]
    intro c hc
    have hc : c ∈ TL.tl x := hc
    rw [e] at hc
    have r := TL.numL_digits n c hc
    have all : ∀ c : Nat, c < 58 → 48 ≤ c → Unicode.isDecimal c = true := by decide +kernel
    exact all c (by omega) r.1
  rw [StrLaws.removeprefix_eq]
  have ly : ("-" : Str).length = 1 := by decide +kernel
  rcases num_cases i with ⟨n, rfl, e⟩ | ⟨n, rfl, e⟩
  · rw [if_neg fun z => ?_]
    · exact dig e
    · rw [sub_first, Bool.and_eq_true, decide_eq_true_iff, decide_eq_true_iff] at z
      have z2 := z.2
      rw [e] at z2
      cases q : TL.numL n with
      | nil => exact TL.numL_ne n q
      | cons a r =>
        rw [q] at z2
        cases z2
        have := TL.numL_digits n 45 (by rw [q]; exact List.mem_cons_self)
        omega
  · rw [if_pos ?_]
    · refine dig (n := n) ?_
      rw [TL.tl_mk, ly]
      show ((TL.tl (num (-(n : Int)))).drop 1).take _ = _
      rw [TL.len_tl, e]
      simp
    · rw [sub_first, Bool.and_eq_true, decide_eq_true_iff, decide_eq_true_iff, ly, TL.len_tl (num (-(n : Int))), e]
      exact ⟨by rw [List.length_cons]; omega, rfl⟩
/-! ### rows of words -/
theorem sp_tl : TL.tl (" " : Str) = 32 :: [] := by decide +kernel
theorem nl_tl : TL.tl ("\n" : Str) = 10 :: [] := by decide +kernel
/-- a word, then integers -/
def lineL (w : Str) (is : List Int) : List Str := w :: is.map num
def line (w : Str) (is : List Int) : Str := Txt.join " " (lineL w is)
theorem line_split {w : Str} {is : List Int} (hw : 32 ∉ TL.tl w) : Txt.split (line w is) " " = lineL w is :=
  TL.split_join sp_tl (by decide +kernel) (by unfold lineL; simp) fun p hp => by
    rcases List.mem_cons.mp
        hp with rfl | hp
    · exact hw
    · obtain ⟨i, _, rfl⟩ := List.mem_map.mp hp
      exact num_free (.inl (by decide))
theorem joinL_free {c : Nat} {S : List Nat} (hS : c ∉ S) : ∀ {ps : List (List Nat)}, (∀ p ∈ ps, c ∉ p) → c ∉ TL.joinL S ps
  | [], _ => List.not_mem_nil
  | [p], h => h p (List.mem_singleton.mpr rfl)
  | p :: q :: r, h => fun hm => by
    have hm : c ∈ p ++ (S ++ TL.joinL S (q :: r)) := hm
    rcases List.mem_append.mp
        hm with hm | hm
    · exact h p List.mem_cons_self hm
    · rcases List.mem_append.mp
          hm with hm | hm
      · exact hS hm
      · exact joinL_free hS (fun z hz => h z (List.mem_cons_of_mem _ hz)) hm
theorem tl_line (w : Str) (is : List Int) : TL.tl (line w is) = TL.joinL [32] ((lineL w is).map TL.tl) := by
  unfold line
  rw [TL.join_eq, TL.tl_join, sp_tl]
theorem line_free {w : Str} {is : List Int} (hw : 10 ∉ TL.tl w) : 10 ∉ TL.tl (line w is) := by
  rw [tl_line]
  refine joinL_free (by decide) fun p hp => ?_
  obtain ⟨y, hy, rfl⟩ := List.mem_map.mp hp
  rcases List.mem_cons.mp
      hy with rfl | hy
  · exact hw
  · obtain ⟨i, _, rfl⟩ := List.mem_map.mp hy
    exact num_free (.inl (by decide))
theorem text_split {ls : List Str} (h0 : ls ≠ []) (h : ∀ y ∈ ls, 10 ∉ TL.tl y) : Txt.split (Txt.join "\n" ls) "\n" = ls :=
  TL.split_join nl_tl (by decide +kernel) h0 h
/-- two integers behind a word -/
theorem line_two {w : Str} {a b : Int} : TL.tl (line w [a, b]) = TL.tl w ++ ([32] ++ (TL.tl (num a) ++ ([32] ++ TL.tl (num b)))) := by
  rw [tl_line]
  rfl
theorem line_four {w : Str} {a b c d : Int} : TL.tl (line w [a, b, c, d]) = TL.tl w ++ ([32] ++ (TL.tl (num a) ++ ([32] ++ (TL.tl (num b) ++ ([32] ++ (TL.tl (num c) ++ ([32] ++ TL.tl (num d)))))))) := by
  rw [tl_line]
  rfl
theorem line_len2 {w : Str} {a b : Int} (hw : w.length ≤ 10) (ha : a.natAbs < 10 ^ 11) (hb : b.natAbs < 10 ^ 11) : (line w [a, b]).length ≤ 100 := by
  have h1 := num_len ha
  have h2 := num_len hb
  rw [TL.len_tl] at hw h1 h2
  rw [TL.len_tl, line_two]
  simp only [List.length_append,
      List.length_singleton]
  omega
theorem line_len4 {w : Str} {a b c d : Int} (hw : w.length ≤ 10) (ha : a.natAbs < 10 ^ 11) (hb : b.natAbs < 10 ^ 11) (hc : c.natAbs < 10 ^ 11) (hd : d.natAbs < 10 ^ 11) : (line w [a, b, c, d]).length ≤ 100 := by
  have h1 := num_len ha
  have h2 := num_len hb
  have h3 := num_len hc
  have h4 := num_len hd
  rw [TL.len_tl] at hw h1 h2 h3 h4
  rw [TL.len_tl, line_four]
  simp only [List.length_append,
      List.length_singleton]
  omega
theorem join_len {c : Str} : ∀ (ys : List Str) (n : Nat), (∀ y ∈ ys, y.length ≤ n) → (Txt.join c ys).length ≤ ys.length * (n + c.length) := fun ys n h => by
  rw [TL.join_eq]
  have z := StrLaws.join_length_le c ys
  have s : (ys.map (·.length)).sum ≤ ys.length * n := by
    clear z
    induction ys with
    | nil => simp
    | cons y ys ih =>
      have := ih fun z hz => h z (List.mem_cons_of_mem _ hz)
      have := h y List.mem_cons_self
      rw [List.map_cons, List.sum_cons,
          List.length_cons, Nat.succ_mul]
      omega
  rw [Nat.mul_add]
  omega
end Tx
end

section
set_option Elab.async false
set_option linter.all false
set_option maxRecDepth 100000
set_option maxHeartbeats 1001000
/-! Steps over texts. -/
namespace Mir
open PySem L2
section
variable {S : Store} {k : D → Prop} {Q : D → Store → Prop} {QB : Bool → Store → Prop} {X : XC} {ρ : Mir.Env}
def s2K (f : F2) (mb : Mr D) (ρ : Mir.Env) (Q : D → Store → Prop) (X : XC) : D → Store → Prop := fun x S1 => match x with
  | .str a => mb ρ S1 (fun y S2 => f (.str a) y S2 fun d => Q d S2) X
  | _ => False
theorem str2_to {f : F2} {ma mb : Mr D} (h : ma ρ S (s2K f mb ρ Q X) X) : mStr2 f ma mb ρ S Q X := h
theorem s2K_s {f : F2} {mb : Mr D} {a : Str} (h : mb ρ S (fun y S2 => f (.str a) y S2 fun d => Q d S2) X) : s2K f mb ρ Q X (.str a) S := h
def s1K (f : F1) (Q : D → Store → Prop) : D → Store → Prop := fun x S1 => match x with
  | .str a => f (.str a) S1 fun d => Q d S1
  | _ => False
theorem str1_to {f : F1} {ma : Mr D} (h : ma ρ S (s1K f Q) X) : mStr1 f ma ρ S Q X := h
theorem s1K_s {f : F1} {a : Str} (h : f (.str a) S fun d => Q d S) : s1K f Q (.str a) S := h
theorem split_s {a b : Str} (h1 : (b.length == 0) = false) (h2 : a.length + 2 ≤ sizeLine) (h : k (.lst ((Txt.split a b).map D.str))) : fSplit (.str a) (.str b) S k := ⟨a, b, rfl, rfl, h1, h2, h⟩
theorem join_l {a : Str} {ys : List Str} (h1 : (ys.map (·.length)).sum + ys.length * a.length ≤ 16777216) (h : k (.str (Txt.join a ys))) : fJoin (.str a) (.lst (ys.map D.str)) S k := ⟨a, ys, rfl, rfl, h1, h⟩
theorem rmPre_s {a b : Str} (h1 : a.length ≤ sizeLine) (h : k (.str (Txt.removeprefix a b))) : fRmPre (.str a) (.str b) S k := ⟨a, b, rfl, rfl, h1, h⟩
theorem isDec_s {a : Str} (h : k (.bl (Txt.isdecimal a))) : fIsDec (.str a) S k := ⟨a, rfl, h⟩
theorem intS_s {a : Str} {n : Int} (h1 : PySem.intText? a = some n) (h2 : a.length ≤ 640) (h : k (.int n)) : fIntS [.str a] S k := ⟨a, n, rfl, h1, h2, h⟩
theorem lenS_s {a : Str} (h1 : a.length ≤ sizeLine) (h : k (.int a.length)) : fLenS [.str a] S k := ⟨a, rfl, h1, h⟩
def fsK (false_or_by_contra : List (Mr D)) (acc : Str) (ρ : Mir.Env) (Q : D → Store → Prop) (X : XC) : D → Store → Prop := fun d S1 => match d with
  | .str y => (acc ++ y).length ≤ sizeLine ∧ mFs false_or_by_contra (acc ++ y) ρ S1 Q X
  | .int i => i.natAbs.log2 < 1920 ∧ (acc ++ Str.ofString (toString i)).length ≤ sizeLine ∧ mFs false_or_by_contra (acc ++ Str.ofString (toString i)) ρ S1 Q X
  | _ => False
theorem fs_to {m : Mr D} {false_or_by_contra : List (Mr D)} {acc : Str} (h : m ρ S (fsK false_or_by_contra acc ρ Q X) X) : mFs (m :: false_or_by_contra) acc ρ S Q X := h
theorem fsK_s {false_or_by_contra : List (Mr D)} {acc y : Str} (h1 : (acc ++ y).length ≤ sizeLine) (h : mFs false_or_by_contra (acc ++ y) ρ S Q X) : fsK false_or_by_contra acc ρ Q X (.str y) S := ⟨h1, h⟩
theorem fsK_i {false_or_by_contra : List (Mr D)} {acc : Str} {i : Int} (h0 : i.natAbs.log2 < 1920) (h1 : (acc ++ Str.ofString (toString i)).length ≤ sizeLine) (h : mFs false_or_by_contra (acc ++ Str.ofString (toString i)) ρ S Q X) : fsK false_or_by_contra acc ρ Q X (.int i) S := ⟨h0, h1, h⟩
theorem fs_nil {acc : Str} (h : Q (.str acc) S) : mFs [] acc ρ S Q X := h
theorem gst_l {gs : MGs} {x : D} {xs : List D} {q : Mir.Env → Store → Prop} (h1 : xs.length ≤ 16000) (h : gs [x, .lst xs] ρ S q) : gSt gs (.lst (x :: xs)) ρ S q := ⟨h1, h⟩
def efK (c : Int) (q : Pk → Store → Prop) : List D → Store → Prop := fun ds S1 => match ds with
  | [.lst xs] => q (enF c xs, fun _ => True) S1
  | _ => False
theorem enumF_to {c : Int} {false_or_by_contra : Mr (List D)} {q : Pk → Store → Prop} (h : false_or_by_contra ρ S (efK c q) X) : mEnumF c false_or_by_contra ρ S q X := h
theorem efK_l {c : Int} {xs : List D} {q : Pk → Store → Prop} (h : q (enF c xs, fun _ => True) S) : efK c q [.lst xs] S := h
def ttK (Q : Bool → Store → Prop) : D → Store → Prop := fun d S1 => match d with
  | .tup xs => Q (!xs.isEmpty) S1
  | _ => False
theorem truT_at {me : Mr D} (h : me ρ S (ttK QB) X) : mTruT me ρ S QB X := h
theorem ttK_t {xs : List D} (h : QB (!xs.isEmpty) S) : ttK QB (.tup xs) S := h
theorem cutS_to {me : Mr D} {ml mu : Mr (Option Int)} (h : me ρ S (fun d S1 => ml ρ S1 (fun lo S2 => mu ρ S2 (fun hi S3 => ∃ a : Str, d = .str a ∧ a.length ≤ sizeLine ∧ Q (.str (cutS a lo hi)) S3) X) X) X) : mCutS me ml mu ρ S Q X := h
end
end Mir
end

section
set_option Elab.async false
set_option linter.all false
set_option maxRecDepth 100000
set_option maxHeartbeats 801000
namespace K55
open PySem L2 Mir Yd Tx
variable {S : Store} {Q : D → Store → Prop} {X : XC}
def in_1 : MS := mIte (mOr (mT (mOp fGt (mApp fLenS (mCons (mVar 0) (mNil))) (mC (.int (12))))) (mNot (mT (mStr1 fIsDec (mStr2 fRmPre (mVar 0) (mC (.str "-"))))))) (mRet (mC .non)) (mNext)
def in_2 : MS := mSet 1 (mApp fIntS (mCons (mVar 0) (mNil)))
def in_3 : MS := mIte (mT (mOp fNe (mApp fStrI (mCons (mVar 1) (mNil))) (mVar 0))) (mRet (mC .non)) (mNext)
def in_4 : MS := mRet (mVar 1)
theorem in__eq : m_integer = mFn 1 1 (mSeq in_1 (mSeq in_2 (mSeq in_3 in_4))) := rfl
def wl_1 : MS := mAsg (mVar 0) (gQ 2 (gCo (gN 3) (gCo (gN 4) (gNi))))
def wl_2 : MS := mAsg (mStr2 fSplit (mVar 1) (mC (.str " "))) (gSt (gCo (gN 5) (gCo (gN 6) (gNi))))
def wl_3 : MS := mSet 2 (mApp fTuple (mCons (mLc (mWk (mVar 6)) (.nm 7) [7] (mYes) (mCall 1 m_integer (mCons (mVar 7) (mNil)))) (mNil)))
def wl_4 : MS := mIte (mAnd (mT (mOp fEq (mVar 5) (mC (.str "wagon")))) (mNot (mTruT (mVar 4)))) (mRet (mTup (mCons (mOp fAdd (mVar 3) (mTup (mCons (mVar 2) (mNil)))) (mCons (mVar 4) (mNil))))) (mNext)
def wl_5 : MS := mIte (mT (mOp fEq (mVar 5) (mC (.str "coupling")))) (mRet (mTup (mCons (mVar 3) (mCons (mOp fAdd (mVar 4) (mTup (mCons (mVar 2) (mNil)))) (mNil))))) (mNext)
def wl_6 : MS := mRet (mC .non)
theorem wl__eq : m_with_line = mFn 2 6 (mSeq wl_1 (mSeq wl_2 (mSeq wl_3 (mSeq wl_4 (mSeq wl_5 wl_6))))) := rfl
theorem lg {i : Int} (h : i.natAbs < 10 ^ 11) : i.natAbs.log2 < 1920 := by
  by_cases e : i.natAbs = 0
  · rw [e]
    decide
  · exact (Nat.log2_lt e).mpr (Nat.lt_of_lt_of_le h (Nat.le_trans (show 10 ^ 11 ≤ 2 ^ 40 by decide) (Nat.pow_le_pow_right (by decide) (by decide))))
theorem w_integer {i : Int} (hi : i.natAbs < 10 ^ 11) (h : Q (.int i) S) : m_integer [.str (num i)] S Q X := by
  have hl := num_len hi
  have sz : (num i).length ≤ sizeLine := by rw [sizeLine_eq]; omega
  rw [in__eq]
  refine ⟨rfl, ?_⟩
  show mSeq in_1 _ _ [some (.str (num i)), none] S
  unfold in_1
  ac_rfl
  refine lenS_s sz ?_
  ac_rfl
  rw [decide_eq_false (show ¬ (12 : Int) < ((num i).length : Int) by omega)]
  ac_rfl
  refine str1_to ?_
  refine str2_to ?_
  ac_rfl
  refine s2K_s ?_
  ac_rfl
  refine rmPre_s sz ?_
  refine s1K_s ?_
  refine isDec_s ?_
  rw [num_dec]
  ac_rfl
  unfold in_2
  ac_rfl
  refine intS_s (num_read hi) (by omega) ?_
  ac_rfl
  unfold in_3
  ac_rfl
  refine str_i (lg hi) ?_
  ac_rfl
  refine ne_ss ?_
  rw [decide_eq_true rfl]
  ac_rfl
  unfold in_4
  ac_rfl
  exact cut_self h
section
variable {M : ME} {W : List (Int × Int)} {Cs : List C} {w : Str} {is : List Int} {A B : List D} {m : MS}
/-- the words of a line, the integers behind the first one -/
theorem wl123_at (hw : 32 ∉ TL.tl w) (hl : (line w is).length ≤ 1000) (hs : ∀ i ∈ is, i.natAbs < 10 ^ 11) (hn : is.length ≤ 10) {a0 : D} (e0 : a0 = .tup [.tup A, .tup B])
    (h : m M [some a0, some (.str (line w is)), some (.tup (is.map D.int)), some (.tup A), some (.tup B), some (.str w), some (.lst ((is.map num).map D.str)), none] S) :
    mSeq wl_1 (mSeq wl_2 (mSeq wl_3 m)) M [some a0, some (.str (line w is)), none, none, none, none, none, none] S := by
  subst e0
  have hs1 : (" " : Str).length = 1 := by decide +kernel
  unfold wl_1
  ac_rfl
  unfold wl_2
  ac_rfl
  refine str2_to ?_
  ac_rfl
  refine s2K_s ?_
  ac_rfl
  refine split_s (by rw [hs1]; rfl) (by rw [sizeLine_eq]; omega) ?_
  rw [line_split hw]
  show gSt _ (.lst (D.str w :: (is.map num).map D.str)) _ _ _
  refine gst_l (by rw [List.length_map, List.length_map]; omega) ?_
  ac_rfl
  unfold wl_3
  ac_rfl
  refine lc_m is (fun i => D.str (num i)) (fun _ => True) (fun _ => true) D.int (fun Q' hq => ?_) (by omega) (fun _ _ _ => trivial) (fun l nl i hi acc Q' X h => ?_) (fun l nl i hi _ acc Q' X h => ?_) ?_
  · ac_rfl
    rw [List.map_map]
    exact hq
  · exact h
  · show mCall 1 m_integer (mCons (mVar 7) mNil) [some (.tup [.tup A, .tup B]), some (.str (line w is)), none, some (.tup A), some (.tup B), some (.str w), some (.lst ((is.map num).map D.str)), some (.str (num i))] _ Q' X
    ac_rfl
    refine w_integer (hs i hi) ?_
    exact h
  · rw [List.filter_eq_self.mpr fun _ _ => rfl]
    ac_rfl
    exact h
def wln (p : Int × Int) : Str := line "wagon" [p.1, p.2]
def cln (c : C) : Str := line "coupling" [c.i, c.j, c.l, c.g]
/-- bounds of what is written -/
def Sm11 (i : Int) : Prop := i.natAbs < 10 ^ 11
theorem w_wagon {p : Int × Int} (h1 : Sm11 p.1) (h2 : Sm11 p.2) (hW : W.length ≤ 1000) (h : Q (yD (W ++ [p]) []) S) : m_with_line [yD W [], .str (wln p)] S Q X := by
  have hs : ∀ i ∈ [p.1, p.2], i.natAbs < 10 ^ 11 := fun i hi => by
    simp only [List.mem_cons, List.not_mem_nil, or_false] at hi
    rcases hi with rfl | rfl
    · exact h1
    · exact h2
  have hl := line_len2 (w := "wagon") (by decide +kernel) h1 h2
  rw [wl__eq]
  refine ⟨rfl, ?_⟩
  refine wl123_at (A := W.map wD) (B := []) (w := "wagon") (is := [p.1, p.2]) (by decide +kernel) (by omega) hs (by simp) rfl ?_
  unfold wl_4
  ac_rfl
  refine eq_ss ?_
  rw [decide_eq_true rfl]
  ac_rfl
  refine truT_at ?_
  ac_rfl
  refine ttK_t ?_
  rw [show (!(!([] : List D).isEmpty)) = true from rfl]
  ac_rfl
  refine add_tt (xs := W.map wD) (ys := [D.tup ([p.1, p.2].map D.int)]) (by rw [List.length_map]; simp only [List.length_singleton]; omega) ?_
  ac_rfl
  have e : D.tup [.tup (W.map wD ++ [D.tup ([p.1, p.2].map D.int)]), .tup []] = yD (W ++ [p]) [] := by
    unfold yD
    rw [List.map_append]
    rfl
  rw [e]
  exact cut_self h
theorem w_coup {c : C} (h1 : Sm11 c.i) (h2 : Sm11 c.j) (h3 : Sm11 c.l) (h4 : Sm11 c.g) (hC : Cs.length ≤ 1000) (h : Q (yD W (Cs ++ [c])) S) : m_with_line [yD W Cs, .str (cln c)] S Q X := by
  have hs : ∀ i ∈ [c.i, c.j, c.l, c.g], i.natAbs < 10 ^ 11 := fun i hi => by
    simp only [List.mem_cons, List.not_mem_nil, or_false] at hi
    rcases hi with rfl | rfl | rfl | rfl
    · exact h1
    · exact h2
    · exact h3
    · exact h4
  have hl := line_len4 (w := "coupling") (by decide +kernel) h1 h2 h3 h4
  rw [wl__eq]
  refine ⟨rfl, ?_⟩
  refine wl123_at (A := W.map wD) (B := Cs.map cD) (w := "coupling") (is := [c.i, c.j, c.l, c.g]) (by decide +kernel) (by omega) hs (by simp) rfl ?_
  unfold wl_4
  ac_rfl
  refine eq_ss ?_
  rw [decide_eq_false (by decide +kernel)]
  ac_rfl
  unfold wl_5
  ac_rfl
  refine eq_ss ?_
  rw [decide_eq_true rfl]
  ac_rfl
  refine add_tt (by simp only [List.length_map, List.length_cons, List.length_nil]; omega) ?_
  ac_rfl
  have e : D.tup [.tup (W.map wD), .tup (Cs.map cD ++ [D.tup ([c.i, c.j, c.l, c.g].map D.int)])] = yD W (Cs ++ [c]) := by
    unfold yD
    rw [List.map_append]
    rfl
  rw [e]
  exact cut_self h
def iy_1 : MS := mThru (mDrop (mCall 1 mvalidate_yard (mCons (mVar 0) (mNil))))
def iy_2 : MS := mRet (mC (.bl true))
theorem iy__eq : mis_yard = mFn 1 0 (mSeq iy_1 iy_2) := rfl
theorem w_is_yard (Y : Yard W Cs) (h : Q (.bl true) S) : mis_yard [yD W Cs] S Q X := by
  rw [iy__eq]
  refine ⟨rfl, ?_⟩
  show mSeq iy_1 _ _ [some (yD W Cs)] S
  unfold iy_1 mThru
  ac_rfl
  refine w_validate Y ?_
  ac_rfl
  unfold iy_2
  ac_rfl
  exact cut_self h
end
end K55
end

section
set_option Elab.async false
set_option linter.all false
set_option maxRecDepth 100000
set_option maxHeartbeats 401000
/-! Couplings by wagon. -/
namespace Yd
open PySem L2 Mir
variable {S : Store} {Q : D → Store → Prop} {X : XC}
theorem leT_two {a b c d : Int} : leT [a, b] [c, d] = true ↔ (a < c ∨ (a = c ∧ b ≤ d)) := by
  unfold leT
  simp [Ob.lexAt]
  by_cases h1 : a = c
  · by_cases h2 : b = d
    · simp [h1, h2]
    · simp [h1, h2]
  · simp [h1]
    omega
/-- what holds a wagon: the others, with the bounds of their differences to it -/
def nbL (Cs : List C) (u : Int) : List (Int × Int × Int) := Cs.filterMap fun c => if c.i = u then some (c.j, c.l, c.g) else if c.j = u then some (c.i, -c.g, -c.l) else none
theorem okC_pw {n : Int} : ∀ {Cs : List C} {ls bef : List Int}, okC n ls bef Cs → (∀ a b, bef = [a, b] → ∀ c ∈ Cs, a < c.i ∨ (a = c.i ∧ b < c.j)) ∧ Cs.Pairwise before
  | [], _, _, _ => ⟨fun _ _ _ _ h => (nomatch h), .nil⟩
  | c :: Cs, ls, bef, ⟨R, hl, a, b, _, _, _, h⟩ => by
    obtain ⟨h1, h2⟩ := okC_pw h
    have h3 := h1 c.i c.j rfl
    refine ⟨fun a' b' e d hd => ?_, List.pairwise_cons.mpr ⟨fun d hd => h3 d hd, h2⟩⟩
    subst e
    have hc : ¬ (c.i < a' ∨ (c.i = a' ∧ c.j ≤ b')) := fun z => by rw [leT_two.mpr z] at hl; cases hl
    rcases List.mem_cons.mp
        hd with rfl | hd
    · omega
    · have := h3 d hd
      omega
theorem nbL_append {Cs Ds : List C} {u : Int} : nbL (Cs ++ Ds) u = nbL Cs u ++ nbL Ds u := by unfold nbL; rw [List.filterMap_append]
theorem mem_nbL {Cs : List C} {u : Int} {e : Int × Int × Int} : e ∈ nbL Cs u ↔ ∃ c ∈ Cs, (c.i = u ∧ e = (c.j, c.l, c.g)) ∨ (c.i ≠ u ∧ c.j = u ∧ e = (c.i, -c.g, -c.l)) := by
  unfold nbL
  rw [List.mem_filterMap]
  constructor
  · rintro ⟨c, hc, h⟩
    refine ⟨c, hc, ?_⟩
    split at h
    · rename_i h1
      cases h
      exact .inl ⟨h1, rfl⟩
    · rename_i h1
      split at h
      · rename_i h2
        cases h
        exact .inr ⟨h1, h2, rfl⟩
      · cases h
  · rintro ⟨c, hc, ⟨h1, rfl⟩ | ⟨h1, h2, rfl⟩⟩
    · exact ⟨c, hc, by rw [if_pos h1]⟩
    · exact ⟨c, hc, by rw [if_neg h1, if_pos h2]⟩
/-- a dict of what holds a wagon -/
def nbK (es : List (Int × Int × Int)) : List (Key × D) := es.map fun e => (.inl e.1, .tup [.int e.2.1, .int e.2.2])
theorem stor_new {kvs : List (Key × D)} {k : Key} {v : D} (h : ∀ p ∈ kvs, p.1 ≠ k) : stor kvs k v = kvs ++ [(k, v)] := by
  unfold stor
  rw [if_neg]
  intro z
  obtain ⟨p, hp, e⟩ := List.any_eq_true.mp z
  exact h p hp (of_decide_eq_true e)
theorem nbK_new {es : List (Int × Int × Int)} {k l g : Int} (h : ∀ e ∈ es, e.1 ≠ k) : stor (nbK es) (.inl k) (.tup [.int l, .int g]) = nbK (es ++ [(k, l, g)]) := by
  rw [stor_new]
  · unfold nbK
    rw [List.map_append]
    rfl
  · intro p hp
    unfold nbK at hp
    obtain ⟨e, he, rfl⟩ := List.mem_map.mp hp
    intro z
    injection z with z
    exact h e he z
/-- a coupling's two wagons are new to each other -/
theorem nb_fresh {Cs : List C} {c : C} (hp : (Cs ++ [c]).Pairwise before) (hR : ∀ d ∈ Cs ++ [c], d.i < d.j) : (∀ e ∈ nbL Cs c.i, e.1 ≠ c.j) ∧ ∀ e ∈ nbL Cs c.j, e.1 ≠ c.i := by
  have hb : ∀ d ∈ Cs, before d c := fun d hd => (List.pairwise_append.mp hp).2.2 d hd c (List.mem_singleton.mpr rfl)
  have hc := hR c (List.mem_append_right _ (List.mem_singleton.mpr rfl))
  constructor
  · intro e he
    obtain ⟨d, hd, ⟨h1, rfl⟩ | ⟨h0, h1, rfl⟩⟩ := mem_nbL.mp he
    · have := hb d hd
      unfold before at this
      dsimp only
      omega
    · have := hR d (List.mem_append_left _ hd)
      dsimp only
      omega
  · intro e he
    obtain ⟨d, hd, ⟨h1, rfl⟩ | ⟨h0, h1, rfl⟩⟩ := mem_nbL.mp he
    · have := hR d (List.mem_append_left _ hd)
      dsimp only
      omega
    · have := hb d hd
      unfold before at this
      dsimp only
      omega
theorem nbL_snoc {Cs : List C} {c : C} {u : Int} (hc : c.i < c.j) : nbL (Cs ++ [c]) u = nbL Cs u ++ (if c.i = u then [(c.j, c.l, c.g)] else if c.j = u then [(c.i, -c.g, -c.l)] else []) := by
  rw [nbL_append]
  congr 1
  unfold nbL
  rw [List.filterMap_cons]
  split
  · rename_i h
    split at h
    · cases h
    · rename_i h1
      split at h
      · cases h
      · rename_i h2
        rw [if_neg h1, if_neg h2]
        rfl
  · rename_i b h
    split at h
    · rename_i h1
      cases h
      rw [if_pos h1]
      rfl
    · rename_i h1
      split at h
      · rename_i h2
        cases h
        rw [if_neg h1, if_pos h2]
        rfl
      · cases h
/-- the data that neighbours_of gives -/
def nbV (Cs : List C) (u : Int) : D := .dct ((nbK (nbL Cs u)).map (·.1)) ((nbK (nbL Cs u)).map (·.2))
def nbD (Cs : List C) (n : Nat) : D := .lst ((List.range n).map fun (u : Nat) => nbV Cs u)
/-! ### many dicts made values -/
def delAll : List Nat → Store → Store
  | [], S => S
  | l :: L, S => delAll L (del S l)
theorem delAll_ne {k : Nat} : ∀ {L : List Nat} {S : Store}, k ∉ L → delAll L S k = S k
  | [], _, _ => rfl
  | l :: L, S, h => by
    rw [delAll, delAll_ne (fun z => h (List.mem_cons_of_mem _ z)), Mir.del_ne fun z => h (by rw [z]; exact List.mem_cons_self)]
theorem delAll_in {k : Nat} : ∀ {L : List Nat} {S : Store}, k ∈ L → delAll L S k = none
  | l :: L, S, h => by
    rw [delAll]
    by_cases hk : k ∈ L
    · exact delAll_in hk
    · rw [delAll_ne hk]
      rcases List.mem_cons.mp
          h with rfl | h
      · exact Mir.del_same
      · exact (hk h).elim
theorem frzs_all {g : Nat → List (Key × D)} : ∀ {L : List Nat} {S : Store} {k : Nat}, L.Nodup → (∀ (u l : Nat), L[u]? = some l → S l = some (.dk (g (k + u)))) →
    frzs S (L.map D.ref) = some ((List.range' k L.length).map fun u => D.dct ((g u).map (·.1)) ((g u).map (·.2)), delAll L S)
  | [], _, _, _, _ => rfl
  | l :: L, S, k, hn, h => by
    have h0 := h 0 l rfl
    obtain ⟨n1, n2⟩ := List.nodup_cons.mp hn
    rw [List.map_cons, frzs, h0]
    dsimp only
    rw [frzs_all (g := g) (k := k + 1) n2 fun u m hu => by
      have hm : m ∈ L := List.mem_of_getElem? hu
      rw [Mir.del_ne fun z => n1 (by rw [← z]; exact hm)]
      have := h (u + 1) m (by simpa using hu)
      rw [this, show k + (u + 1) = k + 1 + u by omega]]
    rw [List.length_cons, List.range'_succ]
    rfl
theorem ranks {line : List Int} (hd : line.Nodup) : ∃ rk : Nat → Nat, ∀ (k j : Nat), line[k]? = some (j : Int) → rk j = k := by
  classical
  refine ⟨fun j => if h : ∃ k, line[k]? = some (j : Int) then h.choose else 0, fun k j hk => ?_⟩
  have h : ∃ k, line[k]? = some (j : Int) := ⟨k, hk⟩
  show (if h : ∃ k, line[k]? = some (j : Int) then h.choose else 0) = k
  rw [dif_pos h]
  have z := h.choose_spec
  exact (List.getElem?_inj (List.getElem?_eq_some_iff.mp z).1 hd).mp (z.trans hk.symm)
/-- the couplings drawn so far -/
structure Lot (row : List Int) (rk : Nat → Nat) (k : Nat) (Cs : List C) : Prop where
  cr : ∀ c ∈ Cs, CR row.length c
  ne : ∀ c ∈ Cs, rk c.i.toNat ≠ rk c.j.toNat
  nd : (Cs.map (chi rk)).Nodup
  lt : ∀ c ∈ Cs, rk (chi rk c) < k
  al : ∀ c ∈ Cs, ∀ a b : Int, row[c.i.toNat]? = some a → row[c.j.toNat]? = some b → c.l ≤ b - a ∧ b - a ≤ c.g
theorem Lot.wait {row : List Int} {rk : Nat → Nat} {k k' : Nat} {Cs : List C} (L : Lot row rk k Cs) (h : k ≤ k') : Lot row rk k' Cs := ⟨L.cr, L.ne, L.nd, fun c hc => Nat.lt_of_lt_of_le (L.lt c hc) h, L.al⟩
theorem Lot.more {row : List Int} {rk : Nat → Nat} {k : Nat} {Cs : List C} {c : C} (L : Lot row rk k Cs) (h1 : CR row.length c) (h2 : rk c.i.toNat ≠ rk c.j.toNat) (h3 : rk (chi rk c) = k) (h4 : ∀ a b : Int, row[c.i.toNat]? = some a → row[c.j.toNat]? = some b → c.l ≤ b - a ∧ b - a ≤ c.g) : Lot row rk (k + 1) (Cs ++ [c]) := by
  have all : ∀ {P : C → Prop}, (∀ d ∈ Cs, P d) → P c → ∀ d ∈ Cs ++ [c], P d := fun {P} p q d hd => by
    rcases List.mem_append.mp hd with hd | hd
    · exact p d hd
    · cases List.mem_singleton.mp hd
      exact q
  refine ⟨all L.cr h1, all L.ne h2, ?_, all (fun d hd => Nat.lt_succ_of_lt (L.lt d hd)) (by omega), all L.al h4⟩
  rw [List.map_append]
  refine List.nodup_append.mpr ⟨L.nd, by simp, fun x hx y hy e => ?_⟩
  subst e
  obtain ⟨d, hd, rfl⟩ := List.mem_map.mp hx
  simp at hy
  have z := L.lt d hd
  rw [hy, h3] at z
  omega
end Yd
end

section
set_option Elab.async false
set_option linter.all false
set_option maxRecDepth 100000
set_option maxHeartbeats 401000
/-! Rows of integers compared. -/
namespace Yd
open PySem L2 Mir
variable {S : Store} {k : D → Prop}
theorem eqvAll_ints : ∀ (x y : List Int), PyData.eqvAll (x.map PyData.int) (y.map PyData.int) = decide (x = y)
  | [], [] =>
      by simp [PyData.eqvAll]
  | [], _ :: _ =>
      by simp [PyData.eqvAll]
  | _ :: _, [] =>
      by simp [PyData.eqvAll]
  | a :: x, b :: y => by
    rw [List.map_cons, List.map_cons, PyData.eqvAll, eqvAll_ints x y]
    have e : PyData.eqv (.int a) (.int b) = decide (a = b) := by
      by_cases h : a = b <;> simp [PyData.eqv, h]
    rw [e]
    by_cases h : a = b
    · by_cases h2 : x = y <;> simp [h, h2]
    · simp [h]
theorem eqv_tupI (x y : List Int) : PyData.eqv (.tuple (x.map PyData.int)) (.tuple (y.map PyData.int)) = decide (x = y) := by
  rw [← eqvAll_ints]
  simp [PyData.eqv]
theorem eqv_lstI (x y : List Int) : PyData.eqv (.list (x.map PyData.int)) (.list (y.map PyData.int)) = decide (x = y) := by
  rw [← eqvAll_ints]
  simp [PyData.eqv]
theorem shaped_tupI (ns : List Int) : SeqAt.shaped (.tuple (ns.map PyData.int)) = true := by
  unfold SeqAt.shaped
  rw [PyData.canLay0, can_ints, PyData.depth]
  have h := ints_depth ns
  simp
  omega
theorem ne_rows {x y : List Int} (h : k (.bl (!decide (x = y)))) : fNe (rD x) (rD y) S k := by
  refine ne_tt (p := rP x) (q := rP y) (py_r x) (py_r y) (shaped_tupI x) (shaped_tupI y) ?_
  unfold rP
  rw [eqv_tupI]
  exact h
theorem eq_rows {x y : List Int} (h : k (.bl (decide (x = y)))) : fEq (rD x) (rD y) S k := by
  refine eq_tt (p := rP x) (q := rP y) (py_r x) (py_r y) (shaped_tupI x) (shaped_tupI y) ?_
  unfold rP
  rw [eqv_tupI]
  exact h
/-- a forest of couplings, drawn in an order of the wagons -/
structure Frs (Cs : List C) : Prop where
  ex : ∃ rk : Nat → Nat, (∀ c ∈ Cs, rk c.i.toNat ≠ rk c.j.toNat) ∧ (Cs.map (chi rk)).Nodup
theorem Frs.nil : Frs [] := ⟨⟨fun _ => 0, ⟨fun _ h => absurd h List.not_mem_nil, List.nodup_nil⟩⟩⟩
theorem Frs.perm {Cs Ds : List C} (h : Frs Cs) (p : Ds.Perm Cs) : Frs Ds := by
  obtain ⟨rk, h1, h2⟩ := h.ex
  exact ⟨⟨rk, fun c hc => h1 c (p.mem_iff.mp hc), (p.map _).nodup_iff.mpr h2⟩⟩
/-- rows of integers in a list -/
theorem asQ_put {l : Nat} {xs : List D} : asQ (put S l (.lst xs)) (.ref l) = some xs := by simp only [asQ, asL, put_same, Option.bind_some]
end Yd
namespace Yd
open PySem L2 Mir
variable {S : Store} {k : D → Prop}
theorem ints_of : ∀ {ys : List D} {P : Nat → Int → Prop}, (∀ i y, ys[i]? = some y → ∃ z : Int, y = .int z ∧ P i z) → ∃ zs : List Int, ys = zs.map D.int ∧ ∀ i z, zs[i]? = some z → P i z
  | [], _, _ => ⟨[], rfl, fun i z h => by simp at h⟩
  | y :: ys, P, h => by
    obtain ⟨z, e, hz⟩ := h 0 y rfl
    obtain ⟨zs, e2, h2⟩ := ints_of (ys := ys) (P := fun i z => P (i + 1) z) fun i y hy => h (i + 1) y (by simpa using hy)
    refine ⟨z :: zs, by rw [e, e2]; rfl, fun i u hu => ?_⟩
    cases i with
    | zero =>
      simp at hu
      subst hu
      exact hz
    | succ i => exact h2 i u (by simpa using hu)
/-- in a tuple of two integers -/
theorem inT_two {v a b : Int} (h : k (.bl (decide (v = a) || decide (v = b)))) : fInT (.int v) (.tup [.int a, .int b]) S k := by
  refine ⟨.int v, [.int a, .int b], rfl, rfl, rfl, rfl, by simp [PyData.depth], ?_⟩
  have e : ([PyData.int a, .int b].any fun z => PyData.eqv z (.int v)) = (decide (v = a) || decide (v = b)) := by
    have q : ∀ i : Int, PyData.eqv (.int i) (.int v) = decide (v = i) := fun i => by
      by_cases g : v = i
      · subst g; simp [PyData.eqv]
      · rw [decide_eq_false g]
        simp [PyData.eqv]
        exact fun e => g e.symm
    simp only [List.any_cons, List.any_nil, q, Bool.or_false]
  rw [e]
  exact h
end Yd
namespace Yd
open PySem L2 Mir
/-- walls that may still be missing -/
def wO : Option (Int × Int) → D
  | none => .non
  | some w => wD w
theorem all_some {α : Type} : ∀ {ws : List (Option α)}, (∀ u, u < ws.length → ∃ w, ws[u]? = some (some w)) → ∃ W : List α, ws = W.map some
  | [], _ => ⟨[], rfl⟩
  | o :: ws, h => by
    obtain ⟨w, hw⟩ := h 0 (by simp)
    obtain ⟨W, e⟩ := all_some (ws := ws) fun u hu => h (u + 1) (by simpa using hu)
    simp at hw
    exact ⟨w :: W, by rw [hw, e]; rfl⟩
theorem chi_lt {rk : Nat → Nat} {c : C} {k : Nat} (h : rk (chi rk c) < k) : rk c.i.toNat < k ∧ rk c.j.toNat < k := by
  unfold chi at h
  split at h <;> omega
theorem Lot.setrow {row : List Int} {rk : Nat → Nat} {k v : Nat} {Cs : List C} {z : Int} (L : Lot row rk k Cs) (hv : rk v = k) : Lot (row.set v z) rk k Cs := by
  refine ⟨fun c hc => by rw [List.length_set]; exact L.cr c hc, L.ne, L.nd, L.lt, fun c hc a b ha hb => ?_⟩
  obtain ⟨h1, h2⟩ := chi_lt (L.lt c hc)
  rw [List.getElem?_set_ne fun e => by rw [← e] at h1; omega] at ha
  rw [List.getElem?_set_ne fun e => by rw [← e] at h2; omega] at hb
  exact L.al c hc a b ha hb
theorem Lot.none {row : List Int} {rk : Nat → Nat} {k : Nat} : Lot row rk k [] := ⟨fun c hc => absurd hc List.not_mem_nil, fun c hc => absurd hc List.not_mem_nil, List.nodup_nil, fun c hc => absurd hc List.not_mem_nil, fun c hc => absurd hc List.not_mem_nil⟩
theorem rgD0 {n : Nat} : rgD 0 ((n : Int) - 0).toNat = ((List.range n).map fun i : Nat => (i : Int)).map D.int := by
  rw [Int.sub_zero, Int.toNat_natCast]
  unfold rgD
  rw [List.map_map]
  refine List.map_congr_left fun i _ =>
      ?_
  simp
end Yd
end

section
set_option Elab.async false
set_option linter.all false
set_option maxRecDepth 100000
set_option maxHeartbeats 401000
/-! Texts of data in which empty dicts stand; rows of values. -/
namespace Yd
open PySem L2 Mir
variable {S : Store} {K : D → Prop} {Q : D → Store → Prop} {X : XC} {ρ : Mir.Env}
structure Rz (w k : Nat) (d : D) : Prop where
  ex : ∃ p, pyZ d = some p ∧ Sm w k p
theorem Rz.mono {d : D} {w k w' k' : Nat} (h : Rz w k d) (hw : w ≤ w') (hk : k ≤ k') : Rz w' k' d := by
  obtain ⟨p, e, s⟩ := h.ex
  exact ⟨⟨p, e, s.mono hw hk⟩⟩
theorem Rz.all : ∀ {xs : List D} {w k : Nat}, (∀ x ∈ xs, Rz w k x) → ∃ ps, pyZs xs = some ps ∧ (∀ p ∈ ps, Sm w k p) ∧ ps.length = xs.length
  | [], _, _, _ => ⟨[], rfl, fun _ h => absurd h List.not_mem_nil, rfl⟩
  | x :: xs, w, k, h => by
    obtain ⟨p, e, s⟩ := (h x List.mem_cons_self).ex
    obtain ⟨ps, e2, s2, l⟩ := Rz.all fun y hy => h y (List.mem_cons_of_mem _ hy)
    refine ⟨p :: ps, by rw [pyZs, e, e2]; rfl, fun q hq => ?_, by rw [List.length_cons, List.length_cons, l]⟩
    rcases List.mem_cons.mp
        hq with rfl | hq
    · exact s
    · exact s2 q hq
theorem Rz.tup {xs : List D} {w k : Nat} (n : Nat) (h : ∀ x ∈ xs, Rz w k x) (hn : xs.length ≤ n) : Rz (n * (w + 1)) (k + 1) (.tup xs) := by
  obtain ⟨ps, e, s, l⟩ := Rz.all h
  exact ⟨⟨.tuple ps, by rw [pyZ, e]; rfl, Sm.tup n s (by omega)⟩⟩
theorem Rz.lst {xs : List D} {w k : Nat} (n : Nat) (h : ∀ x ∈ xs, Rz w k x) (hn : xs.length ≤ n) : Rz (n * (w + 1)) (k + 1) (.lst xs) := by
  obtain ⟨ps, e, s, l⟩ := Rz.all h
  exact ⟨⟨.list ps, by rw [pyZ, e]; rfl, Sm.lst n s (by omega)⟩⟩
theorem Rz.int {i : Int} (h : i.natAbs < 1000000000000) : Rz 40 0 (.int i) := ⟨⟨.int i, by simp [pyZ, py], Sm.int h⟩⟩
theorem Rz.bl (b : Bool) : Rz 40 0 (.bl b) := ⟨⟨.bool b, by simp [pyZ, py], by cases b <;> exact ⟨by decide +kernel, by decide +kernel, by decide +kernel, by decide +kernel⟩⟩⟩
theorem Rz.non : Rz 40 0 .non := ⟨⟨.none, by simp [pyZ, py], ⟨by decide +kernel, by decide +kernel, by decide +kernel, by decide +kernel⟩⟩⟩
theorem Rz.dct : Rz 40 1 (.dct [] []) := ⟨⟨.dict [], by simp [pyZ], ⟨by decide +kernel, by decide +kernel, by decide +kernel, by decide +kernel⟩⟩⟩
theorem Rz.str {s : Str} (h : decide ((PyData.str s).leavesShort 13 = true ∧ (PyData.str s).showable = true ∧ (PyData.str s).weight ≤ 40) = true) : Rz 40 0 (.str s) := by
  obtain ⟨a, b, c⟩ := of_decide_eq_true h
  exact ⟨⟨.str s, by simp [pyZ, py], ⟨a, b, c, by simp [PyData.depth]⟩⟩⟩
noncomputable def txt (d : D) : Str := match pyZ d with
  | some p => p.shown
  | none => ""
theorem k_txt {d : D} {w k : Nat} (h : Rz w k d) (hn : ∀ l, d ≠ .ref l) (hw : w ≤ 1048576) (hk : k ≤ 50) (q : K (.str (txt d))) : fReprZ [d] S K := by
  obtain ⟨p, e, s⟩ := h.ex
  have e2 : pySZ S d = some p := by
    cases d with
    | ref l => exact (hn l rfl).elim
    | _ => exact e
  unfold txt at q
  rw [e] at q
  unfold fReprZ
  simp only [e2]
  exact ⟨s.ss, Nat.le_trans s.dp hk, PyData.shown_fits (B := 13) (by decide) (by decide) s.sh (Nat.le_trans s.wt hw), q⟩
theorem dictNew_at (h : Q (.dct [] []) S) : mFrzK mDNew ρ S Q X := fun l hl => by
  show (match frzs (put S l (.dk [])) [.ref l] with
    | some ([x], T) => Q x T
    | _ => False)
  rw [frzs, put_same]
  simp only [frzs, Option.map_some, del_put hl, List.map_nil]
  exact h
/-- a row of such items -/
structure Rw (P : D → Prop) (n : Nat) (xs : List D) : Prop where
  le : xs.length ≤ n
  ok : ∀ e ∈ xs, P e
section
variable {P : D → Prop} {n m : Nat} {xs ys : List D}
theorem Rw.mono (h : Rw P n xs) (l : n ≤ m) : Rw P m xs := ⟨Nat.le_trans h.le l, h.ok⟩
theorem Rw.app (h : Rw P n xs) (g : Rw P m ys) : Rw P (n + m) (xs ++ ys) := ⟨by rw [List.length_append]; have := h.le; have := g.le; omega, fun e he => (List.mem_append.mp he).elim (h.ok e) (g.ok e)⟩
theorem Rw.one {e : D} (h : P e) : Rw P 1 [e] := ⟨Nat.le_refl _, fun x hx => by cases List.mem_singleton.mp hx; exact h⟩
theorem Rw.nil : Rw P 0 [] := ⟨Nat.le_refl _, fun _ h => absurd h List.not_mem_nil⟩
theorem Rw.cons {e : D} (h : P e) (g : Rw P n xs) : Rw P (n + 1) (e :: xs) := ⟨by rw [List.length_cons]; have := g.le; omega, fun x hx => (List.mem_cons.mp hx).elim (fun z => by rw [z]; exact h) (g.ok x)⟩
theorem Rw.rev (h : Rw P n xs) : Rw P n xs.reverse := ⟨by rw [List.length_reverse]; exact h.le, fun e he => h.ok e (List.mem_reverse.mp he)⟩
theorem Rw.cut (h : Rw P n xs) {lo hi : Option Int} : Rw P n (cutD xs lo hi) := by
  unfold cutD
  refine ⟨?_, fun e he => h.ok e (List.mem_of_mem_drop (List.mem_of_mem_take he))⟩
  rw [List.length_take,
      List.length_drop]
  have := h.le
  omega
end
end Yd
namespace Yd
open PySem L2 Mir
theorem cut_take {xs : List D} {v : Nat} : cutD xs none (some (v : Int)) = xs.take v := by
  unfold cutD
  rw [HT.sIx_none, HT.sIx_nat, Nat.sub_zero, List.drop_zero]
  by_cases h : v ≤ xs.length
  · rw [Nat.min_eq_left h]
  · rw [Nat.min_eq_right (by omega), List.take_length, List.take_of_length_le (by omega)]
theorem cut_drop {xs : List D} {v : Nat} : cutD xs (some (v : Int)) none = xs.drop v := by
  unfold cutD
  rw [HT.sIx_none, HT.sIx_nat]
  by_cases h : v ≤ xs.length
  · rw [Nat.min_eq_left h]
    exact List.take_of_length_le (by rw [List.length_drop]; exact Nat.le_refl _)
  · rw [Nat.min_eq_right (by omega), Nat.sub_self, List.take_zero, List.drop_of_length_le (by omega)]
section
variable {P : D → Prop} {n m : Nat} {xs ys : List D}
theorem Rw.mid (h : Rw P n xs) (g : Rw P m ys) {i j : Nat} (l : i ≤ j) : Rw P (n + m) ((xs.take i ++ ys) ++ xs.drop j) := by
  refine ⟨?_, fun e he => ?_⟩
  · rw [List.length_append, List.length_append,
        List.length_take, List.length_drop]
    have := h.le
    have := g.le
    omega
  · rcases List.mem_append.mp
        he with he | he
    · rcases List.mem_append.mp
          he with he | he
      · exact h.ok e (List.mem_of_mem_take he)
      · exact g.ok e he
    · exact h.ok e (List.mem_of_mem_drop he)
end
end Yd
end

section
set_option Elab.async false
set_option linter.all false
set_option maxRecDepth 100000
set_option maxHeartbeats 401000
/-! Trees along couplings: in a forest there is one. Data alone. -/
namespace Yd
theorem cover {α : Type} [DecidableEq α] : ∀ {L M : List α}, L.Nodup → (∀ x ∈ L, x ∈ M) → M.length ≤ L.length → ∀ x ∈ M, x ∈ L
  | [], M, _, _, hl, x, hx => by
    have : M = [] := List.eq_nil_of_length_eq_zero (by simpa using hl)
    rw [this] at hx
    cases hx
  | a :: L, M, hd, hs, hl, x, hx => by
    obtain ⟨h1, h2⟩ := List.nodup_cons.mp hd
    have ha := hs a List.mem_cons_self
    by_cases e : x = a
    · rw [e]
      exact List.mem_cons_self
    · refine List.mem_cons_of_mem _ (cover (L := L) (M := M.erase a) h2 (fun y hy => ?_) ?_ x ((List.mem_erase_of_ne e).mpr hx))
      · exact (List.mem_erase_of_ne fun z => h1 (by rw [← z]; exact hy)).mpr (hs y (List.mem_cons_of_mem _ hy))
      · rw [List.length_erase_of_mem ha]
        rw [List.length_cons] at hl
        omega
/-- v hangs on u: they are coupled -/
def Ed (Cs : List C) (u v : Int) : Prop := ∃ e ∈ nbL Cs u, e.1 = v
theorem Ed.iff {Cs : List C} (hR : ∀ c ∈ Cs, c.i < c.j) {u v : Int} : Ed Cs u v ↔ ∃ c ∈ Cs, (c.i = u ∧ c.j = v) ∨ (c.i = v ∧ c.j = u) := by
  constructor
  · rintro ⟨e, he, rfl⟩
    obtain ⟨c, hc, ⟨h1, rfl⟩ | ⟨_, h1, rfl⟩⟩ := mem_nbL.mp he
    · exact ⟨c, hc, .inl ⟨h1, rfl⟩⟩
    · exact ⟨c, hc, .inr ⟨rfl, h1⟩⟩
  · rintro ⟨c, hc, ⟨h1, h2⟩ | ⟨h1, h2⟩⟩
    · exact ⟨(c.j, c.l, c.g), mem_nbL.mpr ⟨c, hc, .inl ⟨h1, rfl⟩⟩, h2⟩
    · have := hR c hc
      exact ⟨(c.i, -c.g, -c.l), mem_nbL.mpr ⟨c, hc, .inr ⟨by omega, h2, rfl⟩⟩, h1⟩
theorem Ed.symm {Cs : List C} (hR : ∀ c ∈ Cs, c.i < c.j) {u v : Int} (h : Ed Cs u v) : Ed Cs v u := by
  obtain ⟨c, hc, h⟩ := (Ed.iff hR).mp h
  exact (Ed.iff hR).mpr ⟨c, hc, h.symm⟩
/-- a tree as it grows: each wagon with the one that it hangs on, the root is t -/
structure Tr (Cs : List C) (t : Int) (ps : List (Int × Int)) : Prop where
  nd : (t :: ps.map (·.1)).Nodup
  ed : ∀ p ∈ ps, Ed Cs p.2 p.1
  up : ∀ (k : Nat) (p : Int × Int), ps[k]? = some p → p.2 = t ∨ ∃ (j : Nat) (q : Int × Int), j < k ∧ ps[j]? = some q ∧ q.1 = p.2
def Dom (t : Int) (ps : List (Int × Int)) (v : Int) : Prop := v = t ∨ ∃ p ∈ ps, p.1 = v
structure Full (Cs : List C) (t : Int) (ps : List (Int × Int)) : Prop extends Tr Cs t ps where
  cl : ∀ u v, Dom t ps u → Ed Cs u v → Dom t ps v
theorem Tr.nil {Cs : List C} {t : Int} : Tr Cs t [] := ⟨by simp, fun p h => (nomatch h), fun k p h => by simp at h⟩
theorem Tr.snoc {Cs : List C} {t u v : Int} {ps : List (Int × Int)} (T : Tr Cs t ps) (hu : Dom t ps u) (hv : ¬ Dom t ps v) (he : Ed Cs u v) : Tr Cs t (ps ++ [(v, u)]) := by
  refine ⟨?_, fun p hp => ?_, fun k p hp => ?_⟩
  · rw [List.map_append, ← List.cons_append]
    refine List.nodup_append.mpr ⟨T.nd, by simp, fun x hx y hy e => hv ?_⟩
    simp at hy
    subst hy
    subst e
    rcases List.mem_cons.mp
        hx with h | h
    · exact .inl h
    · obtain ⟨p, hp, e⟩ := List.mem_map.mp h
      exact .inr ⟨p, hp, e⟩
  · rcases List.mem_append.mp
        hp with hp | hp
    · exact T.ed p hp
    · cases List.mem_singleton.mp hp
      exact he
  · rcases Nat.lt_or_ge k ps.length with h | h
    · rw [List.getElem?_append_left h] at hp
      rcases T.up k p hp with g | ⟨j, q, h1, h2, h3⟩
      · exact .inl g
      · exact .inr ⟨j, q, h1, by rw [List.getElem?_append_left (by omega)]; exact h2, h3⟩
    · rw [List.getElem?_append_right h] at hp
      have ek : k = ps.length := by
        cases e : k - ps.length with
        | zero => omega
        | succ n => rw [e] at hp; simp at hp
      rw [ek, Nat.sub_self] at hp
      cases hp
      rcases hu with g | ⟨q, hq, e⟩
      · exact .inl g
      · obtain ⟨j, hj, ej⟩ := List.mem_iff_getElem.mp hq
        exact .inr ⟨j, q, by omega, by rw [List.getElem?_append_left hj, List.getElem?_eq_getElem hj, ej], e⟩
theorem Tr.dom_up {Cs : List C} {t : Int} {ps : List (Int × Int)} (T : Tr Cs t ps) {p : Int × Int} (hp : p ∈ ps) : Dom t ps p.2 := by
  obtain ⟨k, hk, ek⟩ := List.mem_iff_getElem.mp hp
  rcases T.up k p (by rw [List.getElem?_eq_getElem hk, ek]) with h | ⟨j, q, _, h2, h3⟩
  · exact .inl h
  · exact .inr ⟨q, List.mem_of_getElem? h2, h3⟩
theorem nodup_idx {ps : List (Int × Int)} (h : (ps.map (·.1)).Nodup) {j k : Nat} {p q : Int × Int} (hj : ps[j]? = some p) (hk : ps[k]? = some q) (e : p.1 = q.1) : j = k := by
  have a : (ps.map (·.1))[j]? = some p.1 := by rw [List.getElem?_map, hj]; rfl
  have b : (ps.map (·.1))[k]? = some p.1 := by rw [List.getElem?_map, hk, e]; rfl
  exact (List.getElem?_inj (List.getElem?_eq_some_iff.mp a).1 h).mp (a.trans b.symm)
section
variable {n : Int} {Cs : List C} {t : Int} {ps qs : List (Int × Int)} {rk : Nat → Nat}
def ch (rk : Nat → Nat) (p : Int × Int) : Nat := if rk p.2.toNat < rk p.1.toNat then p.1.toNat else p.2.toNat
theorem ch_chi (hk : ∀ c ∈ Cs, rk c.i.toNat ≠ rk c.j.toNat) {c : C} (hc : c ∈ Cs) {p : Int × Int} (h : (c.i = p.2 ∧ c.j = p.1) ∨ (c.i = p.1 ∧ c.j = p.2)) : chi rk c = ch rk p := by
  unfold chi ch
  have ne := hk c hc
  rcases h with ⟨h1,
      h2⟩ | ⟨h1, h2⟩
  · rw [h1, h2]
  · rw [h1, h2] at ne ⊢
    by_cases g : rk p.1.toNat < rk p.2.toNat
    · rw [if_pos g, if_neg (by omega)]
    · rw [if_neg g, if_pos (by omega)]
theorem chi_inj' : ∀ {Cs : List C}, (Cs.map (chi rk)).Nodup → ∀ {c d : C}, c ∈ Cs → d ∈ Cs → chi rk c = chi rk d → c = d
  | [], _, _, _, h, _, _ => nomatch h
  | a :: Cs, hN, c, d, hc, hd, e => by
    rw [List.map_cons, List.nodup_cons] at hN
    rcases List.mem_cons.mp hc with e1 | hc'
    · rcases List.mem_cons.mp hd with e2 | hd'
      · rw [e1, e2]
      · exact (hN.1 (by rw [← e1, e]; exact List.mem_map_of_mem hd')).elim
    · rcases List.mem_cons.mp hd with e2 | hd'
      · exact (hN.1 (by rw [← e2, ← e]; exact List.mem_map_of_mem hc')).elim
      · exact chi_inj' hN.2 hc' hd' e
/-- no two wagons hang on each other -/
theorem Tr.not_both (T : Tr Cs t ps) {u v : Int} (h1 : (u, v) ∈ ps) (h2 : (v, u) ∈ ps) : False := by
  obtain ⟨j, hj, ej⟩ := List.mem_iff_getElem.mp h1
  obtain ⟨k, hk, ek⟩ := List.mem_iff_getElem.mp h2
  have nd := (List.nodup_cons.mp T.nd)
  have gj : ps[j]? = some (u, v) := by rw [List.getElem?_eq_getElem hj, ej]
  have gk : ps[k]? = some (v, u) := by rw [List.getElem?_eq_getElem hk, ek]
  have below : ∀ {a b : Int} {i m : Nat}, ps[i]? = some (a, b) → ps[m]? = some (b, a) → m < i := fun {a b i m} hi hm => by
    rcases T.up i (a, b) hi with h | ⟨l, q, l1, l2, l3⟩
    · exact (nd.1 (List.mem_map.mpr ⟨(b, a), List.mem_of_getElem? hm, h⟩)).elim
    · have := nodup_idx nd.2 l2 hm l3
      omega
  have := below gj gk
  have := below gk gj
  omega
theorem min_of {D : List Int} (f : Int → Nat) : D ≠ [] → ∃ r ∈ D, ∀ x ∈ D, f r ≤ f x := by
  induction D with
  | nil => exact fun h => (h rfl).elim
  | cons a D ih =>
    intro _
    by_cases h : D = []
    · subst h
      exact ⟨a, List.mem_cons_self, fun x hx => by cases List.mem_singleton.mp hx; exact Nat.le_refl _⟩
    · obtain ⟨r, h1, h2⟩ := ih h
      by_cases g : f a ≤ f r
      · exact ⟨a, List.mem_cons_self, fun x hx => (List.mem_cons.mp hx).elim (fun e => by rw [e]; exact Nat.le_refl _) fun hx => Nat.le_trans g (h2 x hx)⟩
      · exact ⟨r, List.mem_cons_of_mem _ h1, fun x hx => (List.mem_cons.mp hx).elim (fun e => by rw [e]; omega) (h2 x)⟩
/-- all couplings of the tree's wagons are in it -/
theorem Full.edge (F : Full Cs t ps) (hR : ∀ c ∈ Cs, CR n c) (ht : 0 ≤ t) (hk : ∀ c ∈ Cs, rk c.i.toNat ≠ rk c.j.toNat) (hN : (Cs.map (chi rk)).Nodup) {u v : Int} (hu : Dom t ps u) (he : Ed Cs u v) : (v, u) ∈ ps ∨ (u, v) ∈ ps := by
  have hlt : ∀ c ∈ Cs, c.i < c.j := fun c hc => (hR c hc).ij
  have hv := F.cl u v hu he
  obtain ⟨nd1, nd2⟩ := List.nodup_cons.mp F.nd
  have dom_mem : ∀ x, Dom t ps x ↔ x ∈ t :: ps.map (·.1) := fun x => by
    constructor
    · rintro (rfl | ⟨p, hp, rfl⟩)
      · exact List.mem_cons_self
      · exact List.mem_cons_of_mem _ (List.mem_map_of_mem hp)
    · intro h
      rcases List.mem_cons.mp h with h | h
      · exact .inl h
      · obtain ⟨p, hp, e⟩ := List.mem_map.mp h
        exact .inr ⟨p, hp, e⟩
  have pos : ∀ x, Dom t ps x → 0 ≤ x := fun x hx => by
    rcases hx with rfl | ⟨p, hp, rfl⟩
    · exact ht
    · obtain ⟨c, hc, h⟩ := (Ed.iff hlt).mp (F.ed p hp)
      have R := hR c hc
      have := R.i0
      have := R.ij
      omega
  obtain ⟨r, hr, rmin⟩ := min_of (D := t :: ps.map (·.1)) (fun x => rk x.toNat) (by simp)
  -- each tree pair's coupling
  have cop : ∀ p ∈ ps, ∃ c ∈ Cs, ((c.i = p.2 ∧ c.j = p.1) ∨ (c.i = p.1 ∧ c.j = p.2)) ∧ chi rk c = ch rk p := fun p hp => by
    obtain ⟨c, hc, h⟩ := (Ed.iff hlt).mp (F.ed p hp)
    exact ⟨c, hc, h, ch_chi hk hc h⟩
  have inD : ∀ (a b : Int) (c : C), c ∈ Cs → Dom t ps a → Dom t ps b → ((c.i = b ∧ c.j = a) ∨ (c.i = a ∧ c.j = b)) → chi rk c ∈ ((t :: ps.map (·.1)).erase r).map Int.toNat := fun a b c hc ha hb h => by
    have h1 := ch_chi (p := (a, b)) hk hc h
    have ne := hk c hc
    have a0 := pos a ha
    have b0 := pos b hb
    have ra := rmin a ((dom_mem a).mp ha)
    have rb := rmin b ((dom_mem b).mp hb)
    rw [h1]
    unfold ch
    dsimp only
    have ne' : rk a.toNat ≠ rk b.toNat := by rcases h with ⟨e1, e2⟩ | ⟨e1, e2⟩ <;> rw [e1, e2] at ne <;> omega
    by_cases g : rk b.toNat < rk a.toNat
    · rw [if_pos g]
      refine List.mem_map.mpr ⟨a, (List.mem_erase_of_ne fun e => ?_).mpr ((dom_mem a).mp ha), rfl⟩
      rw [e] at g
      omega
    · rw [if_neg g]
      refine List.mem_map.mpr ⟨b, (List.mem_erase_of_ne fun e => ?_).mpr ((dom_mem b).mp hb), rfl⟩
      rw [e] at g ne'
      omega
  have ndch : (ps.map (ch rk)).Nodup := by
    refine List.pairwise_iff_getElem.mpr fun i j hi hj hij e => ?_
    rw [List.length_map] at hi hj
    rw [List.getElem_map, List.getElem_map] at e
    obtain ⟨c, hc, h1, e1⟩ := cop ps[i] (List.getElem_mem hi)
    obtain ⟨d, hd, h2, e2⟩ := cop ps[j] (List.getElem_mem hj)
    have ecd : c = d := chi_inj' hN hc hd (by rw [e1, e2, e])
    subst ecd
    have gi : ps[i]? = some ps[i] := List.getElem?_eq_getElem hi
    have gj : ps[j]? = some ps[j] := List.getElem?_eq_getElem hj
    have same : ps[i].1 = ps[j].1 → False := fun z => by
      have := nodup_idx nd2 gi gj z
      omega
    have swap : ps[i].1 = ps[j].2 → ps[i].2 = ps[j].1 → False := fun z1 z2 => by
      refine F.toTr.not_both (u := ps[i].1) (v := ps[i].2) (List.getElem_mem hi) ?_
      have : (ps[i].2, ps[i].1) = ps[j] := Prod.ext z2 z1
      rw [this]
      exact List.getElem_mem hj
    rcases h1 with ⟨a1, a2⟩ | ⟨a1, a2⟩ <;> rcases h2 with ⟨b1, b2⟩ | ⟨b1, b2⟩
    · exact same (a2.symm.trans b2)
    · exact swap (a2.symm.trans b2) (a1.symm.trans b1)
    · exact swap (a1.symm.trans b1) (a2.symm.trans b2)
    · exact same (a1.symm.trans b1)
  have sub : ∀ x ∈ ps.map (ch rk), x ∈ ((t :: ps.map (·.1)).erase r).map Int.toNat := fun x hx => by
    obtain ⟨p, hp, rfl⟩ := List.mem_map.mp hx
    obtain ⟨c, hc, h, e⟩ := cop p hp
    rw [← e]
    exact inD p.1 p.2 c hc (.inr ⟨p, hp, rfl⟩) (F.toTr.dom_up hp) h
  have len : (((t :: ps.map (·.1)).erase r).map Int.toNat).length ≤ (ps.map (ch rk)).length := by
    rw [List.length_map, List.length_erase_of_mem hr, List.length_cons, List.length_map, List.length_map]
    omega
  obtain ⟨c, hc, h⟩ := (Ed.iff hlt).mp he
  have hx := cover ndch sub len _ (inD v u c hc hv hu h)
  obtain ⟨p, hp, e⟩ := List.mem_map.mp hx
  obtain ⟨d, hd, h2, e2⟩ := cop p hp
  have ecd : d = c := chi_inj' hN hd hc (by rw [e2, e])
  subst ecd
  rcases h with ⟨a1, a2⟩ | ⟨a1, a2⟩ <;> rcases h2 with ⟨b1, b2⟩ | ⟨b1, b2⟩
  · left
    have : p = (v, u) := Prod.ext (b2.symm.trans a2) (b1.symm.trans a1)
    rw [← this]; exact hp
  · right
    have : p = (u, v) := Prod.ext (b1.symm.trans a1) (b2.symm.trans a2)
    rw [← this]; exact hp
  · right
    have : p = (u, v) := Prod.ext (b2.symm.trans a2) (b1.symm.trans a1)
    rw [← this]; exact hp
  · left
    have : p = (v, u) := Prod.ext (b1.symm.trans a1) (b2.symm.trans a2)
    rw [← this]; exact hp
/-- one tree -/
theorem Full.unique (F : Tr Cs t ps) (G : Full Cs t qs) (hR : ∀ c ∈ Cs, CR n c) (ht : 0 ≤ t) (hk : ∀ c ∈ Cs, rk c.i.toNat ≠ rk c.j.toNat) (hN : (Cs.map (chi rk)).Nodup) : ∀ (k : Nat) (p : Int × Int), ps[k]? = some p → p ∈ qs := by
  intro k
  induction k using Nat.strongRecOn with
  | ind k ih =>
    intro p hp
    have he := F.ed p (List.mem_of_getElem? hp)
    obtain ⟨nd1, nd2⟩ := List.nodup_cons.mp F.nd
    obtain ⟨md1, md2⟩ := List.nodup_cons.mp G.nd
    rcases F.up k p hp with h | ⟨j, q, h1, h2, h3⟩
    · rcases G.edge hR ht hk hN (u := p.2) (v := p.1) (.inl h) he with g | g
      · exact g
      · exact (md1 (List.mem_map.mpr ⟨_, g, h⟩)).elim
    · have hq := ih j h1 q h2
      rcases G.edge hR ht hk hN (u := p.2) (v := p.1) (.inr ⟨q, hq, h3⟩) he with g | g
      · exact g
      · obtain ⟨a, ha, ea⟩ := List.mem_iff_getElem.mp hq
        obtain ⟨b, hb, eb⟩ := List.mem_iff_getElem.mp g
        have eab := nodup_idx md2 (j := a) (k := b) (p := q) (q := (p.2, p.1)) (by rw [List.getElem?_eq_getElem ha, ea]) (by rw [List.getElem?_eq_getElem hb, eb]) h3
        subst eab
        rw [ea] at eb
        subst eb
        rcases F.up j (p.2, p.1) h2 with z | ⟨i, o, i1, i2, i3⟩
        · exact (nd1 (List.mem_map.mpr ⟨p, List.mem_of_getElem? hp, z⟩)).elim
        · have := nodup_idx nd2 i2 hp i3
          omega
theorem Full.same (F : Full Cs t ps) (G : Full Cs t qs) (hR : ∀ c ∈ Cs, CR n c) (ht : 0 ≤ t) (K : Frs Cs) (p : Int × Int) : p ∈ ps ↔ p ∈ qs := by
  obtain ⟨rk, hk, hN⟩ := K.ex
  constructor
  · intro h
    obtain ⟨k, hk', ek⟩ := List.mem_iff_getElem.mp h
    exact Full.unique F.toTr G hR ht hk hN k p (by rw [List.getElem?_eq_getElem hk', ek])
  · intro h
    obtain ⟨k, hk', ek⟩ := List.mem_iff_getElem.mp h
    exact Full.unique G.toTr F hR ht hk hN k p (by rw [List.getElem?_eq_getElem hk', ek])
end
end Yd
end

section
set_option Elab.async false
set_option linter.all false
set_option maxRecDepth 100000
set_option maxHeartbeats 401000
/-! Trees as dicts: what hangs on what, and the spans. -/
namespace Yd
open PySem L2 Mir
theorem len_le {α : Type} [DecidableEq α] : ∀ {L M : List α}, L.Nodup → (∀ x ∈ L, x ∈ M) → L.length ≤ M.length
  | [], M, _, _ => Nat.zero_le _
  | a :: L, M, hd, hs => by
    obtain ⟨h1, h2⟩ := List.nodup_cons.mp hd
    have ha := hs a List.mem_cons_self
    have := len_le (L := L) (M := M.erase a) h2 fun y hy => (List.mem_erase_of_ne fun z => h1 (by rw [← z]; exact hy)).mpr (hs y (List.mem_cons_of_mem _ hy))
    rw [List.length_erase_of_mem ha] at this
    have : 0 < M.length := List.length_pos_of_mem ha
    rw [List.length_cons]
    omega
section
variable {n : Int} {Cs : List C} {t : Int} {ps : List (Int × Int)}
theorem Ed.lt {N : Nat} (hR : ∀ c ∈ Cs, CR N c) {u v : Int} (h : Ed Cs u v) : 0 ≤ v ∧ v < N := by
  obtain ⟨c, hc, h⟩ := (Ed.iff fun c hc => (hR c hc).ij).mp h
  have R := hR c hc
  have := R.i0
  have := R.ij
  have := R.jn
  omega
theorem Tr.bound {N : Nat} (T : Tr Cs t ps) (hR : ∀ c ∈ Cs, CR N c) (h0 : 0 ≤ t) (h1 : t < N) : (∀ v, Dom t ps v → 0 ≤ v ∧ v < N) ∧ ps.length + 1 ≤ N := by
  have a : ∀ v, Dom t ps v → 0 ≤ v ∧ v < N := fun v hv => by
    rcases hv with rfl | ⟨p, hp, rfl⟩
    · exact ⟨h0, h1⟩
    · exact (T.ed p hp).lt hR
  refine ⟨a, ?_⟩
  have := len_le (M := (List.range N).map fun i : Nat => (i : Int)) T.nd fun x hx => by
    have : Dom t ps x := by
      rcases List.mem_cons.mp
          hx with h | h
      · exact .inl h
      · obtain ⟨p, hp, e⟩ := List.mem_map.mp h
        exact .inr ⟨p, hp, e⟩
    obtain ⟨q1, q2⟩ := a x this
    exact List.mem_map.mpr ⟨x.toNat, List.mem_range.mpr (by omega), by omega⟩
  rw [List.length_cons, List.length_map, List.length_map, List.length_range] at this
  exact this
theorem Dom.app {u v w : Int} (h : Dom t ps w) : Dom t (ps ++ [(v, u)]) w := h.elim .inl fun ⟨p, hp, e⟩ => .inr ⟨p, List.mem_append_left _ hp, e⟩
theorem Dom.last {u v : Int} : Dom t (ps ++ [(v, u)]) v := .inr ⟨_, List.mem_append_right _ (List.mem_singleton.mpr rfl), rfl⟩
theorem Dom.app_iff {u v w : Int} : Dom t (ps ++ [(v, u)]) w ↔ Dom t ps w ∨ w = v := by
  constructor
  · rintro (h | ⟨p, hp, e⟩)
    · exact .inl (.inl h)
    · rcases List.mem_append.mp
          hp with hp | hp
      · exact .inl (.inr ⟨p, hp, e⟩)
      · cases List.mem_singleton.mp hp
        exact .inr e.symm
  · rintro (h | rfl)
    · exact h.app
    · exact Dom.last
/-- the dict of what hangs on what -/
def fK (t : Int) (ps : List (Int × Int)) : List (Key × D) := (.inl t, .non) :: ps.map fun p => (.inl p.1, .int p.2)
theorem fK_snoc {u v : Int} : fK t (ps ++ [(v, u)]) = fK t ps ++ [(.inl v, .int u)] := by
  unfold fK
  rw [List.map_append, List.cons_append]
  rfl
theorem fK_len : (fK t ps).length = ps.length + 1 := by unfold fK; rw [List.length_cons, List.length_map]
theorem fK_has {v : Int} : (look (fK t ps) (.inl v)).isSome = true ↔ Dom t ps v := by
  constructor
  · intro h
    obtain ⟨d, hd⟩ :=
        Option.isSome_iff_exists.mp h
    have := look_of hd
    unfold fK at this
    rcases List.mem_cons.mp this with h | h
    · injection h with h _
      injection h with h
      exact .inl h
    · obtain ⟨p, hp, e⟩ := List.mem_map.mp h
      injection e with e _
      injection e with e
      exact .inr ⟨p, hp, e⟩
  · intro h
    cases e : look (fK t ps) (.inl v) with
    | some d => rfl
    | none =>
      unfold fK at e
      rw [look_cons] at e
      rcases h with rfl | ⟨p, hp, rfl⟩
      · rw [if_pos rfl] at e
        cases e
      · by_cases g : (Sum.inl t : Key) = .inl p.1
        · rw [if_pos g] at e
          cases e
        · rw [if_neg g] at e
          unfold look at e
          have q := List.find?_eq_none.mp (Option.map_eq_none_iff.mp e) _ (List.mem_map_of_mem (f := fun p : Int × Int => ((Sum.inl p.1 : Key), D.int p.2)) hp)
          simp at q
theorem fK_new {u v : Int} (h : ¬ Dom t ps v) : stor (fK t ps) (.inl v) (.int u) = fK t (ps ++ [(v, u)]) := by
  rw [fK_snoc]
  refine stor_fresh fun p hp e => h ?_
  unfold fK at hp
  rcases List.mem_cons.mp hp with hp | hp
  · rw [hp] at e
    injection e with e
    exact .inl e.symm
  · obtain ⟨q, hq, e2⟩ := List.mem_map.mp hp
    rw [← e2] at e
    injection e with e
    exact .inr ⟨q, hq, e⟩
/-- bounds of differences -/
abbrev Spn := Int → Option (Int × Int)
def sD (b : Int × Int) : D := .tup [.int b.1, .int b.2]
/-- the spans along a tree -/
structure SpT (Cs : List C) (t : Int) (ps : List (Int × Int)) (s : Spn) : Prop where
  t_ : s t = some (0, 0)
  ed : ∀ p ∈ ps, ∃ e ∈ nbL Cs p.2, e.1 = p.1 ∧ ∃ a b, s p.2 = some (a, b) ∧ s p.1 = some (a + e.2.1, b + e.2.2)
  no : ∀ v, ¬ Dom t ps v → s v = none
end
section
variable {N : Nat} {Cs : List C} {t : Int} {ps qs : List (Int × Int)}
theorem rel_eq : ∀ {Cs : List C}, Cs.Pairwise before → ∀ {c d : C}, c ∈ Cs → d ∈ Cs → c.i = d.i → c.j = d.j → c = d
  | [], _, _, _, h, _, _, _ => nomatch h
  | a :: Cs, hp, c, d, hc, hd, e1, e2 => by
    obtain ⟨h1, h2⟩ :=
        List.pairwise_cons.mp hp
    rcases List.mem_cons.mp hc with rfl | hc'
    · rcases List.mem_cons.mp hd with rfl | hd'
      · rfl
      · have := h1 d hd'
        unfold before at this
        omega
    · rcases List.mem_cons.mp hd with rfl | hd'
      · have := h1 c hc'
        unfold before at this
        omega
      · exact rel_eq h2 hc' hd' e1 e2
/-- one coupling for two wagons -/
theorem nb_one (hR : ∀ c ∈ Cs, CR N c) (hp : Cs.Pairwise before) {u : Int} {e f : Int × Int × Int} (he : e ∈ nbL Cs u) (hf : f ∈ nbL Cs u) (h : e.1 = f.1) : e = f := by
  obtain ⟨c, hc, ⟨h1, rfl⟩ | ⟨h0, h1, rfl⟩⟩ := mem_nbL.mp he
  · have R := (hR c hc).ij
    obtain ⟨d, hd, ⟨g1, rfl⟩ | ⟨g0, g1, rfl⟩⟩ := mem_nbL.mp hf
    · dsimp only at h
      rw [rel_eq hp hc hd (by omega) h]
    · have R2 := (hR d hd).ij
      dsimp only at h
      omega
  · have R := (hR c hc).ij
    obtain ⟨d, hd, ⟨g1, rfl⟩ | ⟨g0, g1, rfl⟩⟩ := mem_nbL.mp hf
    · have R2 := (hR d hd).ij
      dsimp only at h
      omega
    · dsimp only at h
      rw [rel_eq hp hc hd h (by omega)]
/-- the spans of one yard from one wagon are one thing -/
theorem SpT.unique {s r : Spn} (hR : ∀ c ∈ Cs, CR N c) (hp : Cs.Pairwise before) (h0 : 0 ≤ t) (K : Frs Cs) (F : Full Cs t ps) (G : Full Cs t qs) (A : SpT Cs t ps s) (B : SpT Cs t qs r) : s = r := by
  have same := fun p => Full.same F G hR h0 K p
  have key : ∀ (k : Nat) (p : Int × Int), ps[k]? = some p → s p.1 = r p.1 := by
    intro k
    induction k using Nat.strongRecOn with
    | ind k ih =>
      intro p hk
      have pm := List.mem_of_getElem? hk
      obtain ⟨e, he, e1, a, b, ea, eb⟩ := A.ed p pm
      obtain ⟨f, hf, f1, a', b', fa, fb⟩ := B.ed p ((same p).mp pm)
      have ef := nb_one hR hp he hf (by rw [e1, f1])
      subst ef
      have up : s p.2 = r p.2 := by
        rcases F.up k p hk with h | ⟨j, q, h1, h2, h3⟩
        · rw [h, A.t_, B.t_]
        · rw [← h3]
          exact ih j h1 q h2
      rw [ea, fa] at up
      cases up
      rw [eb, fb]
  funext v
  by_cases h : Dom t ps v
  · rcases h with rfl | ⟨p, hp', rfl⟩
    · rw [A.t_, B.t_]
    · obtain ⟨k, hk, ek⟩ := List.mem_iff_getElem.mp hp'
      exact key k p (by rw [List.getElem?_eq_getElem hk, ek])
  · rw [A.no v h, B.no v fun z => h ?_]
    rcases z with z | ⟨p, hp', z⟩
    · exact .inl z
    · exact .inr ⟨p, (same p).mpr hp', z⟩
end
end Yd
namespace Yd
open PySem L2 Mir
section
variable {κ : Type}
    [DecidableEq κ]
theorem look_uniq {kvs : List (κ × D)} {q : κ} {d : D} (h : (q, d) ∈ kvs) (hu : ∀ p ∈ kvs, p.1 = q → p.2 = d) : look kvs q = some d := by
  cases e : look kvs q with
  | none =>
    unfold look at e
    have z := List.find?_eq_none.mp (Option.map_eq_none_iff.mp e) _ h
    simp at z
  | some d' =>
    have := hu _ (look_of e) rfl
    exact congrArg some this
end
section
variable {N : Nat} {Cs : List C} {t : Int} {ps : List (Int × Int)} {s : Spn}
theorem nb_look (hR : ∀ c ∈ Cs, CR N c) (hp : Cs.Pairwise before) {u : Int} {e : Int × Int × Int} (he : e ∈ nbL Cs u) : look (nbK (nbL Cs u)) (.inl e.1) = some (sD (e.2.1, e.2.2)) := by
  refine look_uniq (List.mem_map.mpr ⟨e, he, rfl⟩) fun p hp' e1 => ?_
  obtain ⟨f, hf, rfl⟩ := List.mem_map.mp hp'
  injection e1 with e1
  rw [nb_one hR hp hf he e1]
  rfl
/-- the dict of spans -/
def sK (t : Int) (ps : List (Int × Int)) (s : Spn) : List (Key × D) := (.inl t, sD (0, 0)) :: ps.map fun p => (.inl p.1, sD ((s p.1).getD (0, 0)))
theorem sK_len : (sK t ps s).length = ps.length + 1 := by unfold sK; rw [List.length_cons, List.length_map]
theorem sK_look (T : Tr Cs t ps) (A : SpT Cs t ps s) (v : Int) : look (sK t ps s) (.inl v) = (s v).map sD := by
  by_cases h : Dom t ps v
  · obtain ⟨nd1, nd2⟩ := List.nodup_cons.mp T.nd
    rcases h with rfl | ⟨p, hp, rfl⟩
    · unfold sK
      rw [look_cons, if_pos rfl, A.t_]
      rfl
    · obtain ⟨e, he, e1, a, b, ea, eb⟩ := A.ed p hp
      rw [eb]
      refine look_uniq (List.mem_cons_of_mem _ (List.mem_map.mpr ⟨p, hp, by rw [eb]; rfl⟩)) fun q hq e2 => ?_
      unfold sK at hq
      rcases List.mem_cons.mp hq with hq | hq
      · rw [hq] at e2
        injection e2 with e2
        exact (nd1 (List.mem_map.mpr ⟨p, hp, e2.symm⟩)).elim
      · obtain ⟨r, hr, rfl⟩ := List.mem_map.mp hq
        injection e2 with e2
        dsimp only
        rw [e2, eb]
        rfl
  · rw [A.no v h]
    refine look_none fun p hp e => h ?_
    unfold sK at hp
    rcases List.mem_cons.mp hp with hp | hp
    · rw [hp] at e
      injection e with e
      exact .inl e.symm
    · obtain ⟨q, hq, rfl⟩ := List.mem_map.mp hp
      injection e with e
      exact .inr ⟨q, hq, e⟩
/-- one wagon more -/
def sPut (s : Spn) (v : Int) (b : Int × Int) : Spn := fun u => if u = v then some b else s u
theorem SpT.snoc (A : SpT Cs t ps s) {u v : Int} {a b : Int} {e : Int × Int × Int} (hu : Dom t ps u) (hv : ¬ Dom t ps v) (he : e ∈ nbL Cs u) (e1 : e.1 = v) (hs : s u = some (a, b)) : SpT Cs t (ps ++ [(v, u)]) (sPut s v (a + e.2.1, b + e.2.2)) := by
  have ne : ∀ w, Dom t ps w → w ≠ v := fun w hw z => hv (by rw [← z]; exact hw)
  have old : ∀ w, Dom t ps w → sPut s v (a + e.2.1, b + e.2.2) w = s w := fun w hw => if_neg (ne w hw)
  have domS : ∀ w c, s w = some c → Dom t ps w := fun w c hw => Classical.byContradiction fun z => by rw [A.no w z] at hw; cases hw
  refine ⟨by rw [old t (.inl rfl)]; exact A.t_, fun p hp => ?_, fun w hw => ?_⟩
  · rcases List.mem_append.mp
        hp with hp | hp
    · obtain ⟨f, hf, f1, a', b', fa, fb⟩ := A.ed p hp
      exact ⟨f, hf, f1, a', b', by rw [old _ (domS _ _ fa)]; exact fa, by rw [old _ (domS _ _ fb)]; exact fb⟩
    · cases List.mem_singleton.mp hp
      exact ⟨e, he, e1, a, b, by rw [old _ hu]; exact hs, if_pos rfl⟩
  · have h1 : ¬ Dom t ps w := fun z => hw z.app
    have h2 : w ≠ v := fun z => hw (by rw [z]; exact Dom.last)
    rw [sPut, if_neg h2]
    exact A.no w h1
theorem SpT.nil : SpT Cs t [] (fun v => if v = t then some (0, 0) else none) := ⟨if_pos rfl, fun p h => absurd h List.not_mem_nil, fun v h => if_neg fun z => h (.inl z)⟩
theorem sK_snoc {u v : Int} {b : Int × Int} (hv : ¬ Dom t ps v) : stor (sK t ps s) (.inl v) (sD b) = sK t (ps ++ [(v, u)]) (sPut s v b) := by
  rw [stor_fresh fun p hp e => hv ?_]
  · unfold sK
    rw [List.map_append, List.cons_append]
    congr 2
    · refine List.map_congr_left fun p hp => ?_
      have : p.1 ≠ v := fun z => hv (.inr ⟨p, hp, z⟩)
      rw [sPut, if_neg this]
    · simp [sPut]
  · unfold sK at hp
    rcases List.mem_cons.mp hp with hp | hp
    · rw [hp] at e
      injection e with e
      exact .inl e.symm
    · obtain ⟨q, hq, rfl⟩ := List.mem_map.mp hp
      injection e with e
      exact .inr ⟨q, hq, e⟩
theorem SpT.some_of (T : Tr Cs t ps) (A : SpT Cs t ps s) {v : Int} (h : Dom t ps v) : ∃ b, s v = some b := by
  rcases h with rfl | ⟨p, hp, rfl⟩
  · exact ⟨_, A.t_⟩
  · obtain ⟨e, _, _, a, b, _, eb⟩ := A.ed p hp
    exact ⟨_, eb⟩
end
end Yd
namespace Yd
open PySem L2 Mir
section
variable {Cs : List C} {t : Int}
theorem take_snoc {ps : List (Int × Int)} {i : Nat} {p : Int × Int} (h : ps[i]? = some p) : ps.take (i + 1) = ps.take i ++ [p] := by rw [List.take_add_one, h]; rfl
theorem take_new {ps : List (Int × Int)} {i : Nat} {p : Int × Int} (T : Tr Cs t ps) (h : ps[i]? = some p) : ¬ Dom t (ps.take i) p.1 ∧ Dom t (ps.take i) p.2 := by
  obtain ⟨nd1, nd2⟩ := List.nodup_cons.mp T.nd
  constructor
  · rintro (z | ⟨q, hq, z⟩)
    · exact nd1 (List.mem_map.mpr ⟨p, List.mem_of_getElem? h, z⟩)
    · obtain ⟨j, hj, ej⟩ := List.mem_iff_getElem.mp hq
      rw [List.length_take] at hj
      have gj : ps[j]? = some q := by rw [List.getElem?_eq_getElem (by omega), ← ej, List.getElem_take]
      have := nodup_idx nd2 gj h z
      omega
  · rcases T.up i p h with z | ⟨j, q, h1, h2, h3⟩
    · exact .inl z
    · refine .inr ⟨q, List.mem_of_getElem? (i := j) ?_, h3⟩
      rw [List.getElem?_take_of_lt h1]
      exact h2
theorem Tr.take {ps : List (Int × Int)} (T : Tr Cs t ps) (i : Nat) : Tr Cs t (ps.take i) := by
  refine ⟨?_, fun p hp => T.ed p (List.mem_of_mem_take hp), fun k p hk => ?_⟩
  · rw [List.map_take]
    exact T.nd.sublist ((List.take_sublist _ _).cons₂ _)
  · have hki : k < i := by
      have := (List.getElem?_eq_some_iff.mp hk).1
      rw [List.length_take] at this
      omega
    rw [List.getElem?_take_of_lt hki] at hk
    rcases T.up k p hk with z | ⟨j, q, h1, h2, h3⟩
    · exact .inl z
    · exact .inr ⟨j, q, h1, by rw [List.getElem?_take_of_lt (by omega)]; exact h2, h3⟩
end
end Yd
end

section
set_option Elab.async false
set_option linter.all false
set_option maxRecDepth 100000
set_option maxHeartbeats 801000
/-! Paths in one tree; what the law's search keeps; connected wagons. -/
namespace Yd
open PySem L2 Mir
variable {S : Store} {k : D → Prop} {Cs : List C} {t : Int} {ps qs : List (Int × Int)} {N : Nat}
/-- the paths from the root -/
abbrev Pth := Int → List Int
structure PaT (t : Int) (ps : List (Int × Int)) (w : Pth) : Prop where
  r : w t = [t]
  p : ∀ p ∈ ps, w p.1 = w p.2 ++ [p.1]
def pPut (w : Pth) (v : Int) (x : List Int) : Pth := fun u => if u = v then x else w u
theorem PaT.nil : PaT t [] (fun _ => [t]) := ⟨rfl, fun p h => absurd h List.not_mem_nil⟩
theorem PaT.snoc {w : Pth} (A : PaT t ps w) (T : Tr Cs t ps) {u v : Int} (hu : Dom t ps u) (hv : ¬ Dom t ps v) : PaT t (ps ++ [(v, u)]) (pPut w v (w u ++ [v])) := by
  have ne : ∀ {x : Int}, Dom t ps x → pPut w v (w u ++ [v]) x = w x := fun {x} h => if_neg fun e : x = v => hv (by rw [← e]; exact h)
  refine ⟨by rw [ne (.inl rfl)]; exact A.r, fun p hp => ?_⟩
  rcases List.mem_append.mp
      hp with hp | hp
  · rw [ne (.inr ⟨p, hp, rfl⟩), ne (T.dom_up hp)]
    exact A.p p hp
  · rw [List.mem_singleton.mp
        hp]
    show pPut w v _ v = pPut w v _ u ++ [v]
    rw [ne hu]
    exact if_pos rfl
def rV (x : List Int) (b : Int × Int) : D := .tup [rD x, sD b]
def rK (t : Int) (ps : List (Int × Int)) (s : Spn) (w : Pth) : List (Key × D) := (.inl t, rV (w t) ((s t).getD (0, 0))) :: ps.map fun p => (.inl p.1, rV (w p.1) ((s p.1).getD (0, 0)))
theorem rK_len {s : Spn} {w : Pth} : (rK t ps s w).length = ps.length + 1 := by unfold rK; rw [List.length_cons, List.length_map]
theorem rK_keys {s : Spn} {w : Pth} : (rK t ps s w).map (·.1) = (t :: ps.map (·.1)).map Sum.inl := by
  unfold rK
  rw [List.map_cons, List.map_map, List.map_cons, List.map_map]
  rfl
theorem look_keys {kvs : List (Key × D)} {ns : List Int} {f : Int → D} (h : kvs = ns.map fun n => (Sum.inl n, f n)) (v : Int) : look kvs (.inl v) = if v ∈ ns then some (f v) else none := by
  subst h
  induction ns with
  | nil => rfl
  | cons n ns ih =>
    unfold look at ih ⊢
    rw [List.map_cons, List.find?_cons]
    by_cases e : n = v
    · subst e
      rw [decide_eq_true rfl, if_pos List.mem_cons_self]
      rfl
    · have : decide ((Sum.inl n : Key) = .inl v) = false := decide_eq_false fun z => e (Sum.inl.inj z)
      rw [this, ih]
      by_cases m : v ∈ ns
      · rw [if_pos m, if_pos (List.mem_cons_of_mem _ m)]
      · rw [if_neg m, if_neg fun z => (List.mem_cons.mp z).elim (fun z => e z.symm) m]
theorem mem_dom {v : Int} : v ∈ t :: ps.map (·.1) ↔ Dom t ps v := by
  rw [List.mem_cons, List.mem_map]
  exact ⟨fun h => h.elim .inl fun ⟨p, hp, e⟩ => .inr ⟨p, hp, e⟩, fun h => h.elim .inl fun ⟨p, hp, e⟩ => .inr ⟨p, hp, e⟩⟩
theorem rK_map {s : Spn} {w : Pth} : rK t ps s w = (t :: ps.map (·.1)).map fun n => (Sum.inl n, rV (w n) ((s n).getD (0, 0))) := by
  unfold rK
  rw [List.map_cons, List.map_map]
  rfl
theorem rK_look {s : Spn} {w : Pth} (v : Int) : (Dom t ps v → look (rK t ps s w) (.inl v) = some (rV (w v) ((s v).getD (0, 0)))) ∧ (¬ Dom t ps v → look (rK t ps s w) (.inl v) = none) := by
  rw [look_keys rK_map]
  exact ⟨fun h => if_pos (mem_dom.mpr h), fun h => if_neg fun z => h (mem_dom.mp z)⟩
theorem rK_has {s : Spn} {w : Pth} {v : Int} : (look (rK t ps s w) (.inl v)).isSome = true ↔ Dom t ps v := by
  constructor
  · intro h
    refine Classical.byContradiction fun z => ?_
    rw [(rK_look v).2 z] at h
    cases h
  · intro h
    rw [(rK_look v).1 h]
    rfl
theorem rK_snoc {s : Spn} {w : Pth} {u v : Int} {b : Int × Int} {x : List Int} (T : Tr Cs t ps) (hv : ¬ Dom t ps v) : stor (rK t ps s w) (.inl v) (rV x b) = rK t (ps ++ [(v, u)]) (sPut s v b) (pPut w v x) := by
  have no : ∀ p ∈ rK t ps s w, p.1 ≠ .inl v := fun p hp e => by
    have : p.1 ∈ (rK t ps s w).map (·.1) := List.mem_map_of_mem hp
    rw [e, rK_keys] at this
    obtain ⟨n, hn, en⟩ := List.mem_map.mp this
    cases en
    exact hv (mem_dom.mp hn)
  rw [stor_new no, rK_map, rK_map, List.map_append, List.map_singleton, ← List.cons_append, List.map_append, List.map_singleton]
  have old : ∀ n ∈ t :: ps.map (·.1), ((Sum.inl n : Key), rV (pPut w v x n) ((sPut s v b n).getD (0, 0))) = (Sum.inl n, rV (w n) ((s n).getD (0, 0))) := fun n hn => by
    have ne : n ≠ v := fun e => hv (mem_dom.mp (by rw [← e]; exact hn))
    unfold pPut sPut
    rw [if_neg ne, if_neg ne]
  rw [List.map_congr_left old]
  congr 1
  unfold pPut sPut
  rw [if_pos rfl, if_pos rfl]
  rfl
/-! ### connected -/
/-- a full tree holds all that hangs together -/
theorem Full.reach {u v : Int} (F : Full Cs t ps) (G : Tr Cs u qs) (hu : Dom t ps u) (hv : Dom u qs v) : Dom t ps v := by
  rcases hv with rfl | ⟨p, hp, rfl⟩
  · exact hu
  · obtain ⟨k, hk, ek⟩ := List.mem_iff_getElem.mp hp
    have key : ∀ (m : Nat) (p : Int × Int), qs[m]? = some p → Dom t ps p.1 := by
      intro m
      induction m using
          Nat.strongRecOn with
      | _ m ih =>
        intro p hm
        have pm := List.mem_of_getElem? hm
        obtain ⟨h1, h2⟩ := take_new G hm
        have up : Dom t ps p.2 := by
          rcases h2 with h2 | ⟨q, hq, e⟩
          · rw [h2]; exact hu
          · obtain ⟨j, hj, ej⟩ := List.mem_iff_getElem.mp hq
            have hj' : j < m := by rw [List.length_take] at hj; omega
            have : qs[j]? = some q := by
              rw [← ej, List.getElem_take]
              exact List.getElem?_eq_getElem _
            rw [← e]
            exact ih j hj' q this
        exact F.cl p.2 p.1 up (G.ed p pm)
    exact key k p (by rw [List.getElem?_eq_getElem hk, ek])
/-- the root hangs on each wagon of its tree -/
theorem Full.back {u : Int} (hR : ∀ c ∈ Cs, c.i < c.j) (F : Full Cs u qs) (T : Tr Cs t ps) (hu : Dom t ps u) : Dom u qs t := by
  have key : ∀ (m : Nat) (p : Int × Int), ps[m]? = some p → Dom u qs p.1 → Dom u qs t := by
    intro m
    induction m using
        Nat.strongRecOn with
    | _ m ih =>
      intro p hm hp
      have pm := List.mem_of_getElem? hm
      obtain ⟨h1, h2⟩ := take_new T hm
      have up : Dom u qs p.2 := F.cl p.1 p.2 hp (Ed.symm hR (T.ed p pm))
      rcases h2 with h2 | ⟨q, hq, e⟩
      · rw [← h2]; exact up
      · obtain ⟨j, hj, ej⟩ := List.mem_iff_getElem.mp hq
        have hj' : j < m := by rw [List.length_take] at hj; omega
        have hjm : ps[j]? = some q := by
          rw [← ej, List.getElem_take]
          exact List.getElem?_eq_getElem _
        exact ih j hj' q hjm (by rw [e]; exact up)
  rcases hu with rfl | ⟨p, hp, rfl⟩
  · exact .inl rfl
  · obtain ⟨k, hk, ek⟩ := List.mem_iff_getElem.mp hp
    exact key k p (by rw [List.getElem?_eq_getElem hk, ek]) (.inl rfl)
/-- to hang together: one for both -/
theorem Full.conn {u : Int} (hR : ∀ c ∈ Cs, c.i < c.j) (F : Full Cs t ps) (G : Full Cs u qs) : Dom t ps u ↔ Dom u qs t := ⟨fun h => G.back hR F.toTr h, fun h => F.back hR G.toTr h⟩
theorem Full.equal {u v : Int} (hR : ∀ c ∈ Cs, c.i < c.j) (F : Full Cs t ps) (G : Full Cs u qs) (h : Dom t ps u) : Dom t ps v ↔ Dom u qs v :=
  ⟨fun hv => G.reach F.toTr (G.back hR F.toTr h) hv, fun hv => F.reach G.toTr h hv⟩
end Yd
end

section
set_option Elab.async false
set_option linter.all false
set_option maxRecDepth 100000
set_option maxHeartbeats 801000
/-! The way up in a tree is the path from the other end. -/
namespace Yd
open PySem L2 Mir
variable {S : Store} {k : D → Prop} {Cs : List C} {t f : Int} {ps qs : List (Int × Int)} {N : Nat}
inductive UpW (f : Int) (qs : List (Int × Int)) : Int → List Int → Prop where
  | nil : UpW f qs f [f]
  | cons {v u : Int} {r : List Int} : (v, u) ∈ qs → UpW f qs u (u :: r) → UpW f qs v (v :: u :: r)
theorem Tr.root (T : Tr Cs t ps) {u : Int} (h : (t, u) ∈ ps) : False := (List.nodup_cons.mp T.nd).1 (List.mem_map_of_mem (f := (·.1)) h)
theorem Tr.one (T : Tr Cs t ps) {v a b : Int} (h1 : (v, a) ∈ ps) (h2 : (v, b) ∈ ps) : a = b := by
  obtain ⟨j, hj, ej⟩ := List.mem_iff_getElem.mp h1
  obtain ⟨l, hl, el⟩ := List.mem_iff_getElem.mp h2
  have e1 : ps[j]? = some (v, a) := by rw [List.getElem?_eq_getElem hj, ej]
  have e2 : ps[l]? = some (v, b) := by rw [List.getElem?_eq_getElem hl, el]
  have e := nodup_idx (List.nodup_cons.mp T.nd).2 e1 e2 rfl
  subst e
  rw [e1] at e2
  cases e2
  rfl
theorem up_idx (T : Tr Cs t ps) {m : Nat} {p : Int × Int} (hm : ps[m]? = some p) : p.2 = t ∨ ∃ j, j < m ∧ ∃ q, ps[j]? = some q ∧ q.1 = p.2 := by
  rcases T.up m p hm with h | ⟨j, q, h1, h2, h3⟩
  · exact .inl h
  · exact .inr ⟨j, h1, q, h2, h3⟩
theorem PaT.len {w : Pth} (A : PaT t ps w) (T : Tr Cs t ps) : ∀ (m : Nat) (p : Int × Int), ps[m]? = some p → (w p.1).length ≤ m + 2 := by
  intro m
  induction m using
      Nat.strongRecOn with
  | _ m ih =>
    intro p hm
    rw [A.p p (List.mem_of_getElem? hm), List.length_append, List.length_singleton]
    rcases up_idx T hm with h | ⟨j, hj, q, h2, h3⟩
    · rw [h, A.r, List.length_singleton]
      omega
    · have := ih j hj q h2
      rw [h3] at this
      omega
theorem PaT.short {w : Pth} (A : PaT t ps w) (T : Tr Cs t ps) {v : Int} (h : Dom t ps v) : (w v).length ≤ ps.length + 1 := by
  rcases h with rfl | ⟨p, hp, rfl⟩
  · rw [A.r, List.length_singleton]
    omega
  · obtain ⟨m, hm, em⟩ := List.mem_iff_getElem.mp hp
    have := A.len T m p (by rw [List.getElem?_eq_getElem hm, em])
    omega
theorem PaT.dom {w : Pth} (A : PaT t ps w) (T : Tr Cs t ps) {v : Int} (h : Dom t ps v) : ∀ x ∈ w v, Dom t ps x := by
  have key : ∀ (m : Nat) (p : Int × Int), ps[m]? = some p → ∀ x ∈ w p.1, Dom t ps x := by
    intro m
    induction m using
        Nat.strongRecOn with
    | _ m ih =>
      intro p hm x hx
      have pm := List.mem_of_getElem? hm
      rw [A.p p pm] at hx
      rcases List.mem_append.mp
          hx with hx | hx
      · rcases up_idx T hm with h | ⟨j, hj, q, h2, h3⟩
        · rw [h, A.r] at hx
          exact .inl (List.mem_singleton.mp hx)
        · exact ih j hj q h2 x (by rw [h3]; exact hx)
      · rw [List.mem_singleton.mp hx]
        exact .inr ⟨p, pm, rfl⟩
  rcases h with rfl | ⟨p, hp, rfl⟩
  · intro x hx
    rw [A.r] at hx
    exact .inl (List.mem_singleton.mp hx)
  · obtain ⟨m, hm, em⟩ := List.mem_iff_getElem.mp hp
    exact key m p (by rw [List.getElem?_eq_getElem hm, em])
theorem way_up {w : Pth} (hR : ∀ c ∈ Cs, CR N c) (hf : 0 ≤ f) (K : Frs Cs) (F : Full Cs t ps) (A : PaT t ps w) (G : Full Cs f qs) (hd : Dom t ps f) : ∃ r, w f = t :: r ∧ UpW f qs t (t :: r) := by
  obtain ⟨rk, hk, hN⟩ := K.ex
  have lt : ∀ c ∈ Cs, c.i < c.j := fun c hc => (hR c hc).ij
  have key : ∀ (m : Nat) (u : Int), (u = t ∨ ∃ j, j < m ∧ ∃ p, ps[j]? = some p ∧ p.1 = u) → ∀ r, w u ++ r = w f → UpW f qs u (u :: r) → (r = [] ∧ u = f ∨ ∃ a r', r = a :: r' ∧ (a, u) ∈ ps) → ∃ r, w f = t :: r ∧ UpW f qs t (t :: r) := by
    intro m
    induction m with
    | zero =>
      rintro u (rfl | ⟨j, hj, _⟩) r e U _
      · exact ⟨r, by rw [← e, A.r]; rfl, U⟩
      · omega
    | succ m ih =>
      rintro u (rfl | ⟨j, hj, p, hp, rfl⟩) r e U o
      · exact ⟨r, by rw [← e, A.r]; rfl, U⟩
      · have pm := List.mem_of_getElem? hp
        have du : Dom t ps p.1 := .inr ⟨p, pm, rfl⟩
        have dg : Dom f qs p.1 := G.reach F.toTr (G.back lt F.toTr hd) du
        have ed : Ed Cs p.1 p.2 := Ed.symm lt (F.ed p pm)
        have yes : (p.2, p.1) ∈ qs := by
          rcases G.edge hR hf hk hN dg ed with h | h
          · exact h
          · exfalso
            rcases o with ⟨_, e⟩ | ⟨a, r', rfl, ha⟩
            · rw [e] at h
              exact G.toTr.root h
            · cases U with
              | cons h1 _ =>
                have := G.toTr.one h h1
                rw [← this] at ha
                exact F.toTr.not_both ha (by rw [Prod.eta p] <;> exact pm)
        refine ih p.2 ?_ (p.1 :: r) ?_ (.cons yes U) (.inr ⟨_, _, rfl, pm⟩)
        · rcases up_idx F.toTr hp with h | ⟨l, hl, q, h2, h3⟩
          · exact .inl h
          · exact .inr ⟨l, by omega, q, h2, h3⟩
        · rw [← e, A.p p pm, List.append_assoc]
          rfl
  refine key ps.length f ?_ [] (List.append_nil _) .nil (.inl ⟨rfl, rfl⟩)
  rcases hd with h | ⟨p, hp, e⟩
  · exact .inl h
  · obtain ⟨m, hm, em⟩ := List.mem_iff_getElem.mp hp
    exact .inr ⟨m, hm, p, by rw [List.getElem?_eq_getElem hm, em], e⟩
theorem SpT.far {s : Spn} (A : SpT Cs t ps s) (T : Tr Cs t ps) (hR : ∀ c ∈ Cs, CR N c) {v : Int} {b : Int × Int} (h : s v = some b) : b.1.natAbs ≤ (ps.length + 1) * 10000000000 ∧ b.2.natAbs ≤ (ps.length + 1) * 10000000000 := by
  have key : ∀ (m : Nat) (p : Int × Int), ps[m]? = some p → ∀ b, s p.1 = some b → b.1.natAbs ≤ (m + 1) * 10000000000 ∧ b.2.natAbs ≤ (m + 1) * 10000000000 := by
    intro m
    induction m using
        Nat.strongRecOn with
    | _ m ih =>
      intro p hm b hb
      obtain ⟨e, he, ee, x, y, hs, hs2⟩ := A.ed p (List.mem_of_getElem? hm)
      rw [hs2] at hb
      cases hb
      have be : e.2.1.natAbs ≤ 10000000000 ∧ e.2.2.natAbs ≤ 10000000000 := by
        obtain ⟨c, hc, h⟩ := mem_nbL.mp he
        have R := hR c hc
        have := R.l0
        have := R.lg
        have := R.g0
        rcases h with ⟨_, e⟩ | ⟨_, _, e⟩
        · rw [e]
          exact ⟨by show c.l.natAbs ≤ _; omega, by show c.g.natAbs ≤ _; omega⟩
        · rw [e]
          exact ⟨by show (-c.g).natAbs ≤ _; omega, by show (-c.l).natAbs ≤ _; omega⟩
      have ba : x.natAbs ≤ m * 10000000000 ∧ y.natAbs ≤ m * 10000000000 := by
        rcases up_idx T hm with h | ⟨j, hj, q, h2, h3⟩
        · rw [h, A.t_] at hs
          cases hs
          exact ⟨Nat.zero_le _, Nat.zero_le _⟩
        · have z : x.natAbs ≤ (j + 1) * 10000000000 ∧ y.natAbs ≤ (j + 1) * 10000000000 := ih j hj q h2 (x, y) (by rw [h3]; exact hs)
          have g : (j + 1) * 10000000000 ≤ m * 10000000000 := Nat.mul_le_mul_right _ hj
          exact ⟨Nat.le_trans z.1 g, Nat.le_trans z.2 g⟩
      have g : (m + 1) * 10000000000 = m * 10000000000 + 10000000000 := Nat.succ_mul _ _
      show (x + e.2.1).natAbs ≤ _ ∧ (y + e.2.2).natAbs ≤ _
      rw [g]
      omega
  by_cases d : Dom t ps v
  · rcases d with rfl | ⟨p, hp, rfl⟩
    · rw [A.t_] at h
      cases h
      exact ⟨Nat.zero_le _, Nat.zero_le _⟩
    · obtain ⟨m, hm, em⟩ := List.mem_iff_getElem.mp hp
      have z := key m p (by rw [List.getElem?_eq_getElem hm, em]) b h
      have g : (m + 1) * 10000000000 ≤ (ps.length + 1) * 10000000000 := Nat.mul_le_mul_right _ (by omega)
      exact ⟨Nat.le_trans z.1 g, Nat.le_trans z.2 g⟩
  · rw [A.no v d] at h
    cases h
theorem fK_look {T : Tr Cs f qs} {v u : Int} (h : (v, u) ∈ qs) : look (fK f qs) (.inl v) = some (.int u) := by
  refine look_uniq (List.mem_cons_of_mem _ (List.mem_map.mpr ⟨(v, u), h, rfl⟩)) fun p hp e => ?_
  rcases List.mem_cons.mp
      hp with rfl | hp
  · cases e
    exact (T.root h).elim
  · obtain ⟨q, hq, rfl⟩ := List.mem_map.mp hp
    have e : (Sum.inl q.1 : Key) = .inl v := e
    have e := Sum.inl.inj e
    obtain ⟨a, b⟩ := q
    have e : a = v := e
    subst e
    rw [T.one hq h]
end Yd
end

section
set_option Elab.async false
set_option linter.all false
set_option maxRecDepth 100000
set_option maxHeartbeats 801000
/-! Groups: the wagons that hang together, each group once. -/
namespace Yd
open PySem L2 Mir
variable {Cs : List C} {t u : Int} {ps qs : List (Int × Int)} {N : Nat}
/-- two strictly ascending lists with the same members -/
theorem asc_eq {α : Type} (lt : α → α → Prop) (ir : ∀ a, ¬ lt a a) (tr : ∀ a b c, lt a b → lt b c → lt a c) : ∀ {xs ys : List α}, xs.Pairwise lt → ys.Pairwise lt → (∀ a, a ∈ xs ↔ a ∈ ys) → xs = ys
  | [], [], _, _, _ => rfl
  | [], y :: ys, _, _, h => absurd ((h y).mpr List.mem_cons_self) List.not_mem_nil
  | x :: xs, [], _, _, h => absurd ((h x).mp List.mem_cons_self) List.not_mem_nil
  | x :: xs, y :: ys, hx, hy, h => by
    obtain ⟨x1, x2⟩ := List.pairwise_cons.mp hx
    obtain ⟨y1, y2⟩ := List.pairwise_cons.mp hy
    have e : x = y := by
      rcases List.mem_cons.mp ((h x).mp List.mem_cons_self) with e | e
      · exact e
      · rcases List.mem_cons.mp ((h y).mpr List.mem_cons_self) with e2 | e2
        · exact e2.symm
        · exact absurd (tr _ _ _ (y1 x e) (x1 y e2)) (ir _)
    subst e
    rw [asc_eq lt ir tr x2 y2 fun a => ⟨fun ha => ?_, fun ha => ?_⟩]
    · rcases List.mem_cons.mp ((h a).mp (List.mem_cons_of_mem _ ha)) with e | e
      · subst e
        exact absurd (x1 a ha) (ir _)
      · exact e
    · rcases List.mem_cons.mp ((h a).mpr (List.mem_cons_of_mem _ ha)) with e | e
      · subst e
        exact absurd (y1 a ha) (ir _)
      · exact e
/-- the group of a wagon, ascending -/
structure Cmp (Cs : List C) (t : Int) (ys : List Int) : Prop where
  asc : ys.Pairwise (· < ·)
  full : ∃ ps, Full Cs t ps ∧ ∀ v, v ∈ ys ↔ Dom t ps v
theorem Cmp.of (F : Full Cs t ps) {ys : List Int} (hp : ys.Perm (t :: ps.map (·.1))) (hs : ys.Pairwise (· ≤ ·)) : Cmp Cs t ys := by
  refine ⟨?_, ps, F, fun v => by rw [hp.mem_iff]; exact mem_dom⟩
  have nd : ys.Nodup := hp.nodup_iff.mpr F.nd
  exact List.Pairwise.imp₂ (fun a b h1 h2 => by omega) hs nd
theorem Cmp.self {ys : List Int} (h : Cmp Cs t ys) : t ∈ ys := by
  obtain ⟨ps, F, hm⟩ := h.full
  exact (hm t).mpr (.inl rfl)
theorem Cmp.same (hR : ∀ c ∈ Cs, c.i < c.j) {xs ys : List Int} (a : Cmp Cs t xs) (b : Cmp Cs u ys) (h : u ∈ xs) : xs = ys := by
  obtain ⟨ps, F, h1⟩ := a.full
  obtain ⟨qs, G, h2⟩ := b.full
  exact asc_eq (· < ·) (fun a => Int.lt_irrefl a) (fun _ _ _ => Int.lt_trans) a.asc b.asc fun v => (h1 v).trans ((F.equal hR G ((h1 u).mp h)).trans (h2 v).symm)
theorem Cmp.bound (hR : ∀ c ∈ Cs, CR N c) (h0 : 0 ≤ t) (h1 : t < N) {ys : List Int} (a : Cmp Cs t ys) : ys.length ≤ N ∧ ∀ v ∈ ys, 0 ≤ v ∧ v < N := by
  obtain ⟨ps, F, hm⟩ := a.full
  have hb := F.toTr.bound hR h0 h1
  refine ⟨?_, fun v hv => hb.1 v ((hm v).mp hv)⟩
  have := len_le (L := ys) (M := t :: ps.map (·.1)) (a.asc.imp fun h => by omega) fun x hx => mem_dom.mpr ((hm x).mp hx)
  rw [List.length_cons, List.length_map] at this
  omega
/-- the groups with their first wagons below n -/
def grp (f : Nat → List Int) (n : Nat) : List (List Int) := ((List.range n).filter fun (w : Nat) => decide ((f w).headD (-1) = w)).map f
theorem grp_succ {f : Nat → List Int} {n : Nat} : grp f (n + 1) = grp f n ++ if (f n).headD (-1) = n then [f n] else [] := by
  unfold grp
  rw [List.range_succ, List.filter_append, List.map_append]
  congr 1
  by_cases h : (f n).headD (-1) = n
  · rw [List.filter_cons, decide_eq_true h, if_pos h]
    rfl
  · rw [List.filter_cons, decide_eq_false h, if_neg h]
    rfl
theorem grp_congr {f g : Nat → List Int} {n : Nat} (h : ∀ w, w < n → f w = g w) : grp f n = grp g n := by
  unfold grp
  rw [List.filter_congr (q := fun (w : Nat) => decide ((g w).headD (-1) = w)) fun w hw => by rw [h w (List.mem_range.mp hw)]]
  exact List.map_congr_left fun w hw => h w (List.mem_range.mp (List.mem_filter.mp hw).1)
theorem ltL_irrefl (a : List Int) : ¬ a < a := List.lt_irrefl a
theorem ltL_of {a b : List Int} (h : a ≤ b) (hn : a ≠ b) : a < b := by
  refine Classical.byContradiction fun z => hn ?_
  exact List.le_antisymm h (List.not_lt.mp z)
/-- all groups: once each, ascending -/
theorem grp_all (hR : ∀ c ∈ Cs, CR N c) {f : Nat → List Int} (hf : ∀ w, w < N → Cmp Cs (w : Nat) (f w)) {Ls : List (List Int)} (nd : Ls.Nodup) (hm : ∀ k, k ∈ Ls ↔ k ∈ (List.range N).map f) (hs : Ls.Pairwise fun a b => a ≤ b) : Ls = grp f N := by
  have ij : ∀ c ∈ Cs, c.i < c.j := fun c hc => (hR c hc).ij
  refine asc_eq (· < ·) ltL_irrefl (fun _ _ _ => List.lt_trans) (List.Pairwise.imp₂ (fun a b h1 h2 => ltL_of h1 h2) hs nd) ?_ fun k => (hm k).trans ⟨fun h => ?_, fun h => ?_⟩
  · unfold grp
    rw [List.pairwise_map]
    refine List.Pairwise.imp_of_mem (R := fun a b : Nat => a < b) (fun {a b} ha hb hab => ?_) (List.Pairwise.filter _ List.pairwise_lt_range)
    have ea := of_decide_eq_true (List.mem_filter.mp ha).2
    have eb := of_decide_eq_true (List.mem_filter.mp hb).2
    show f a < f b
    cases fa : f a with
    | nil => rw [fa] at ea; have : (-1 : Int) = a := ea; omega
    | cons x xs =>
      cases fb : f b with
      | nil => rw [fb] at eb; have : (-1 : Int) = b := eb; omega
      | cons y ys =>
        rw [fa] at ea
        rw [fb] at eb
        have ea : x = a := ea
        have eb : y = b := eb
        exact List.cons_lt_cons_iff.mpr (.inl (by omega))
  · obtain ⟨w, hw, rfl⟩ := List.mem_map.mp h
    have hw := List.mem_range.mp hw
    have c1 := hf w hw
    have b1 := c1.bound hR (by omega) (by omega)
    cases e : f w with
    | nil => have := c1.self; rw [e] at this; exact absurd this List.not_mem_nil
    | cons x xs =>
      have hx := b1.2 x (by rw [e]; exact List.mem_cons_self)
      obtain ⟨m, rfl⟩ := Int.eq_ofNat_of_zero_le hx.1
      have hmN : m < N := by omega
      have es := Cmp.same ij c1 (hf m hmN) (by rw [e]; exact List.mem_cons_self)
      unfold grp
      refine List.mem_map.mpr ⟨m, List.mem_filter.mpr ⟨List.mem_range.mpr hmN, ?_⟩, by rw [← es, e]⟩
      rw [← es, e]
      exact decide_eq_true rfl
  · unfold grp at h
    obtain ⟨w, hw, rfl⟩ := List.mem_map.mp h
    exact List.mem_map_of_mem (List.mem_filter.mp hw).1
theorem Cmp.head_le (hR : ∀ c ∈ Cs, CR N c) {ys : List Int} (a : Cmp Cs t ys) : ys ≠ [] := fun e => by
  have := a.self
  rw [e] at this
  exact absurd this List.not_mem_nil
def upF (f : Nat → List Int) (i : Nat) (ys : List Int) : Nat → List Int := fun w => if w = i then ys else f w
theorem upF_self {f : Nat → List Int} {i : Nat} {ys : List Int} : upF f i ys i = ys := if_pos rfl
theorem upF_ne {f : Nat → List Int} {i w : Nat} {ys : List Int} (h : w ≠ i) : upF f i ys w = f w := if_neg h
theorem grp_up {f : Nat → List Int} {i : Nat} {ys : List Int} : grp (upF f i ys) (i + 1) = grp f i ++ if ys.headD (-1) = i then [ys] else [] := by
  rw [grp_succ, upF_self, grp_congr fun w hw => upF_ne (by omega)]
end Yd
end

section
set_option Elab.async false
set_option linter.all false
set_option maxRecDepth 100000
set_option maxHeartbeats 801000
/-! A forest drawn as its wagons are placed one after the other. -/
namespace Yd
open PySem L2 Mir
variable {P : List Int} {Cs : List C} {n : Nat}
def RkOf (rk : Nat → Nat) (P : List Int) : Prop := ∀ (k j : Nat), P[k]? = some (j : Int) → rk j = k
structure Plc (n : Nat) (P : List Int) (Cs : List C) : Prop where
  cr : ∀ c ∈ Cs, CR n c
  rk : ∀ rk, RkOf rk P → (∀ c ∈ Cs, rk c.i.toNat ≠ rk c.j.toNat) ∧ (Cs.map (chi rk)).Nodup ∧ ∀ c ∈ Cs, rk (chi rk c) < P.length
  len : Cs.length ≤ P.length
theorem Plc.none : Plc n [] [] := ⟨fun c h => absurd h List.not_mem_nil, fun _ _ => ⟨fun c h => absurd h List.not_mem_nil, List.nodup_nil, fun c h => absurd h List.not_mem_nil⟩, Nat.le_refl _⟩
theorem RkOf.front {rk : Nat → Nat} {s : Int} (h : RkOf rk (P ++ [s])) : RkOf rk P := fun k j e => h k j (by rw [List.getElem?_append_left (List.getElem?_eq_some_iff.mp e).1]; exact e)
theorem Plc.wait (L : Plc n P Cs) (s : Int) : Plc n (P ++ [s]) Cs := by
  refine ⟨L.cr, fun rk h => ?_, by rw [List.length_append]; have := L.len; omega⟩
  obtain ⟨h1, h2, h3⟩ := L.rk rk h.front
  exact ⟨h1, h2, fun c hc => by rw [List.length_append, List.length_singleton]; have := h3 c hc; omega⟩
theorem Plc.more (L : Plc n P Cs) {s a l g : Int} (hp : a ∈ P) (s0 : 0 ≤ s) (s1 : s < n) (a0 : 0 ≤ a) (a1 : a < n) (ne : s ≠ a) (l0 : -10000000000 ≤ l) (lg : l < g) (g0 : g ≤ 10000000000) :
    Plc n (P ++ [s]) (Cs ++ [⟨if a < s then a else s, if a > s then a else s, l, g⟩]) := by
  have W := L.wait s
  refine ⟨fun c hc => ?_, fun rk h => ?_, by rw [List.length_append, List.length_append, List.length_singleton, List.length_singleton]; have := L.len; omega⟩
  · rcases List.mem_append.mp hc with hc | hc
    · exact L.cr c hc
    · rw [List.mem_singleton.mp hc]
      by_cases z : a < s
      · exact ⟨by show 0 ≤ (if a < s then a else s); rw [if_pos z]; exact a0, by show (if a < s then a else s) < if a > s then a else s; rw [if_pos z, if_neg (by omega)]; exact z, by show (if a > s then a else s) < (n : Int); rw [if_neg (by omega)]; exact s1, l0, lg, g0⟩
      · have z2 : s < a := by omega
        exact ⟨by show 0 ≤ (if a < s then a else s); rw [if_neg z]; exact s0, by show (if a < s then a else s) < if a > s then a else s; rw [if_neg z, if_pos z2]; exact z2, by show (if a > s then a else s) < (n : Int); rw [if_pos z2]; exact a1, l0, lg, g0⟩
  · obtain ⟨h1, h2, h3⟩ := L.rk rk h.front
    obtain ⟨_, _, h4⟩ := W.rk rk h
    have rs : rk s.toNat = P.length := h P.length s.toNat (by
      rw [List.getElem?_append_right (Nat.le_refl _), Nat.sub_self, Int.toNat_of_nonneg s0]
      rfl)
    obtain ⟨k, hk, ek⟩ := List.mem_iff_getElem.mp hp
    have ra : rk a.toNat = k := h.front k a.toNat (by rw [List.getElem?_eq_getElem hk, ek, Int.toNat_of_nonneg a0])
    have both : ∀ d : C, d.i = (if a < s then a else s) → d.j = (if a > s then a else s) → rk d.i.toNat ≠ rk d.j.toNat ∧ chi rk d = s.toNat := fun d e1 e2 => by
      unfold chi
      rw [e1, e2]
      by_cases z : a < s
      · rw [if_pos z, if_neg (by omega), rs, ra, if_pos hk]
        exact ⟨by omega, rfl⟩
      · rw [if_neg z, if_pos (by omega), rs, ra, if_neg (by omega)]
        exact ⟨by omega, rfl⟩
    obtain ⟨b1, b2⟩ := both ⟨if a < s then a else s, if a > s then a else s, l, g⟩ rfl rfl
    refine ⟨fun c hc => ?_, ?_, fun c hc => ?_⟩
    · rcases List.mem_append.mp hc with hc | hc
      · exact h1 c hc
      · rw [List.mem_singleton.mp hc]
        exact b1
    · rw [List.map_append, List.map_singleton, b2]
      refine List.nodup_append.mpr ⟨h2, by simp, fun x hx y hy e => ?_⟩
      rw [List.mem_singleton] at hy
      subst e hy
      obtain ⟨d, hd, e⟩ := List.mem_map.mp hx
      have := h3 d hd
      rw [e, rs] at this
      omega
    · rcases List.mem_append.mp hc with hc | hc
      · exact h4 c hc
      · rw [List.mem_singleton.mp hc, b2, rs, List.length_append, List.length_singleton]
        omega
theorem Plc.yard {W : List (Int × Int)} (L : Plc W.length P Cs) (nd : P.Nodup) (V : VW W) : Yard W (sortC Cs) ∧ Frs (sortC Cs) := by
  obtain ⟨rk, h⟩ := ranks nd
  obtain ⟨h1, h2, _⟩ := L.rk rk h
  exact ⟨yard_sorted V L.cr h1 h2, Frs.perm ⟨⟨rk, h1, h2⟩⟩ (sortC_perm Cs)⟩
end Yd
end

section
set_option Elab.async false
set_option linter.all false
set_option maxRecDepth 100000
set_option maxHeartbeats 801000
/-! Every tree has its paths and its spans. -/
namespace Yd
open PySem L2 Mir
variable {Cs : List C} {t u : Int} {ps qs : List (Int × Int)} {N : Nat}
theorem PaT.ex (T : Tr Cs t ps) : ∃ w, PaT t ps w := by
  have key : ∀ i, ∃ w, PaT t (ps.take i) w := by
    intro i
    induction i with
    | zero => exact ⟨_, by rw [List.take_zero]; exact PaT.nil⟩
    | succ i ih =>
      obtain ⟨w, A⟩ := ih
      cases hp : ps[i]? with
      | none => exact ⟨w, by rw [List.take_add_one, hp]; simpa using A⟩
      | some p =>
        obtain ⟨h1, h2⟩ := take_new T hp
        exact ⟨_, by rw [take_snoc hp]; exact A.snoc (T.take i) h2 h1⟩
  obtain ⟨w, A⟩ := key ps.length
  rw [List.take_length] at A
  exact ⟨w, A⟩
theorem SpT.ex (T : Tr Cs t ps) : ∃ s, SpT Cs t ps s := by
  have key : ∀ i, ∃ s, SpT Cs t (ps.take i) s := by
    intro i
    induction i with
    | zero => exact ⟨_, by rw [List.take_zero]; exact SpT.nil⟩
    | succ i ih =>
      obtain ⟨s, A⟩ := ih
      cases hp : ps[i]? with
      | none => exact ⟨s, by rw [List.take_add_one, hp]; simpa using A⟩
      | some p =>
        obtain ⟨h1, h2⟩ := take_new T hp
        obtain ⟨e, he, ee⟩ := T.ed p (List.mem_of_getElem? hp)
        obtain ⟨⟨a, b⟩, hs⟩ := A.some_of (T.take i) h2
        exact ⟨_, by rw [take_snoc hp]; exact A.snoc h2 h1 he ee hs⟩
  obtain ⟨s, A⟩ := key ps.length
  rw [List.take_length] at A
  exact ⟨s, A⟩
end Yd
end

section
set_option Elab.async false
set_option linter.all false
set_option maxRecDepth 100000
set_option maxHeartbeats 1001000
/-! Labels joined along couplings: how many are left, who shares one; the first coupling that closes a ring. -/
namespace Yd
open PySem L2 Mir
variable {n : Nat} {ls : List Int} {Cs : List C} {t : Int} {ps : List (Int × Int)}
def lab (ls : List Int) (x : Int) : Int := ls[x.toNat]?.getD (-1)
structure LI (n : Nat) (ls : List Int) : Prop where
  len : ls.length = n
  bd : ∀ x : Int, 0 ≤ x → x < n → 0 ≤ lab ls x ∧ lab ls x < n
  fx : ∀ x : Int, 0 ≤ x → x < n → lab ls (lab ls x) = lab ls x
theorem lab_joined {a b x : Int} (h0 : 0 ≤ x) (h1 : x < ls.length) : lab (joined ls a b) x = if lab ls x = b then a else lab ls x := by
  have hx : x.toNat < ls.length := by omega
  unfold lab joined
  rw [List.getElem?_map, List.getElem?_eq_getElem hx]
  rfl
theorem lab_some {x a : Int} (h : ls[x.toNat]? = some a) : lab ls x = a := by unfold lab; rw [h]; rfl
theorem lab_at {x : Int} (h0 : 0 ≤ x) (h1 : x < ls.length) : ls[x.toNat]? = some (lab ls x) := by
  have hx : x.toNat < ls.length := by omega
  unfold lab
  rw [List.getElem?_eq_getElem hx]
  rfl
def stL (n : Nat) : List Int := (List.range n).map fun (i : Nat) => (i : Int)
theorem lab_st {x : Int} (h0 : 0 ≤ x) (h1 : x < n) : lab (stL n) x = x := by
  have hx : x.toNat < n := by omega
  refine lab_some ?_
  unfold stL
  rw [List.getElem?_map, List.getElem?_range hx]
  show some ((x.toNat : Nat) : Int) = some x
  rw [Int.toNat_of_nonneg h0]
theorem LI.start : LI n (stL n) := ⟨by unfold stL; rw [List.length_map, List.length_range], fun x h0 h1 => by rw [lab_st h0 h1]; exact ⟨h0, h1⟩, fun x h0 h1 => by rw [lab_st h0 h1, lab_st h0 h1]⟩
def fixn (n : Nat) (ls : List Int) : List Nat := (List.range n).filter fun (x : Nat) => decide (lab ls x = x)
theorem mem_fixn {x : Nat} : x ∈ fixn n ls ↔ x < n ∧ lab ls x = x := by unfold fixn; rw [List.mem_filter, List.mem_range, decide_eq_true_iff]
theorem fixn_st : fixn n (stL n) = List.range n := by
  unfold fixn
  refine List.filter_eq_self.mpr fun x hx => ?_
  rw [List.mem_range] at hx
  exact decide_eq_true (lab_st (by omega) (by omega))
theorem fixn_nd : (fixn n ls).Nodup := List.Pairwise.filter _ List.nodup_range
theorem LI.join (L : LI n ls) {i j : Int} (i0 : 0 ≤ i) (i1 : i < n) (j0 : 0 ≤ j) (j1 : j < n) (ne : lab ls i ≠ lab ls j) :
    LI n (joined ls (lab ls i) (lab ls j)) ∧ (fixn n (joined ls (lab ls i) (lab ls j))).length + 1 = (fixn n ls).length := by
  have la : lab ls (lab ls i) = lab ls i := L.fx i i0 i1
  have lb : lab ls (lab ls j) = lab ls j := L.fx j j0 j1
  have ba := L.bd i i0 i1
  have bb := L.bd j j0 j1
  have J : ∀ {x : Int}, 0 ≤ x → x < n → lab (joined ls (lab ls i) (lab ls j)) x = if lab ls x = lab ls j then lab ls i else lab ls x := fun h0 h1 => lab_joined h0 (by rw [L.len]; exact h1)
  refine ⟨⟨by unfold joined; rw [List.length_map, L.len], fun x h0 h1 => ?_, fun x h0 h1 => ?_⟩, ?_⟩
  · rw [J h0 h1]
    split
    · exact ba
    · exact L.bd x h0 h1
  · rw [J h0 h1]
    split
    · rw [J ba.1 ba.2, la, if_neg ne]
    · rename_i h
      rw [J (L.bd x h0 h1).1 (L.bd x h0 h1).2, L.fx x h0 h1, if_neg h]
  · have nd : ((lab ls j).toNat :: fixn n (joined ls (lab ls i) (lab ls j))).Nodup := List.nodup_cons.mpr ⟨fun h => by
      obtain ⟨h1, h2⟩ := mem_fixn.mp h
      rw [Int.toNat_of_nonneg bb.1, J bb.1 bb.2, lb, if_pos rfl] at h2
      exact ne h2, fixn_nd⟩
    have sub : ∀ x ∈ (lab ls j).toNat :: fixn n (joined ls (lab ls i) (lab ls j)), x ∈ fixn n ls := fun x hx => by
      rcases List.mem_cons.mp
          hx with rfl | hx
      · exact mem_fixn.mpr ⟨by omega, by rw [Int.toNat_of_nonneg bb.1]; exact lb⟩
      · obtain ⟨h1, h2⟩ := mem_fixn.mp hx
        refine mem_fixn.mpr ⟨h1, ?_⟩
        rw [J (by omega) (by omega)] at h2
        split at h2
        · rename_i h
          rw [← h2, la] at h
          exact absurd h ne
        · exact h2
    have sup : ∀ x ∈ fixn n ls, x ∈ (lab ls j).toNat :: fixn n (joined ls (lab ls i) (lab ls j)) := fun x hx => by
      obtain ⟨h1, h2⟩ := mem_fixn.mp hx
      by_cases h : (x : Int) = lab ls j
      · exact List.mem_cons.mpr (.inl (by rw [← h]; rfl))
      · refine List.mem_cons.mpr (.inr (mem_fixn.mpr ⟨h1, ?_⟩))
        rw [J (by omega) (by omega), h2, if_neg h]
    have := len_le nd sub
    have := len_le fixn_nd sup
    rw [List.length_cons] at *
    omega
theorem LI.pos (L : LI n ls) (h : 1 ≤ n) : 1 ≤ (fixn n ls).length := by
  have b := L.bd 0 (by omega) (by omega)
  have m : (lab ls 0).toNat ∈ fixn n ls := mem_fixn.mpr ⟨by omega, by rw [Int.toNat_of_nonneg b.1]; exact L.fx 0 (by omega) (by omega)⟩
  exact List.length_pos_of_mem m
def lbs : List Int → List C → List Int
  | ls, [] => ls
  | ls, c :: r => lbs (joined ls (lab ls c.i) (lab ls c.j)) r
def noRing : List Int → List C → Prop
  | _, [] => True
  | ls, c :: r => lab ls c.i ≠ lab ls c.j ∧ noRing (joined ls (lab ls c.i) (lab ls c.j)) r
def ringIx : List Int → List C → Option Nat
  | _, [] => none
  | ls, c :: r => if lab ls c.i = lab ls c.j then some 0 else (ringIx (joined ls (lab ls c.i) (lab ls c.j)) r).map (· + 1)
theorem noRing_of : ∀ {Cs : List C} {ls : List Int}, ringIx ls Cs = none → noRing ls Cs
  | [], _, _ => trivial
  | c :: r, ls, h => by
    unfold ringIx at h
    split at h
    · cases h
    · rename_i ne
      exact ⟨ne, noRing_of (Option.map_eq_none_iff.mp h)⟩
theorem noRing_count : ∀ {Cs : List C} {ls : List Int}, LI n ls → (∀ c ∈ Cs, CR n c) → noRing ls Cs → LI n (lbs ls Cs) ∧ (fixn n (lbs ls Cs)).length + Cs.length = (fixn n ls).length
  | [], _, L, _, _ => ⟨L, rfl⟩
  | c :: r, ls, L, hR, ⟨ne, h⟩ => by
    have R := hR c List.mem_cons_self
    have := R.i0
    have := R.ij
    have := R.jn
    obtain ⟨L2, e⟩ := L.join (i := c.i) (j := c.j) (by omega) (by omega) (by omega) (by omega) ne
    obtain ⟨L3, e2⟩ := noRing_count L2 (fun d hd => hR d (List.mem_cons_of_mem _ hd)) h
    refine ⟨L3, ?_⟩
    show (fixn n (lbs (joined ls (lab ls c.i) (lab ls c.j)) r)).length + (r.length + 1) = _
    omega
/-- as many couplings as wagons close a ring -/
theorem ring_there (h : 1 ≤ n) (hR : ∀ c ∈ Cs, CR n c) (hl : n ≤ Cs.length) : ∃ k, ringIx (stL n) Cs = some k := by
  cases e : ringIx (stL n) Cs with
  | some k => exact ⟨k, rfl⟩
  | none =>
    obtain ⟨L, c⟩ := noRing_count LI.start hR (noRing_of e)
    rw [fixn_st, List.length_range] at c
    have := L.pos h
    omega
theorem okC_noRing : ∀ {Cs : List C} {ls bef : List Int}, LI n ls → okC n ls bef Cs → noRing ls Cs
  | [], _, _, _, _ => trivial
  | c :: r, ls, bef, L, ⟨R, _, a, b, ha, hb, ne, h⟩ => by
    have ea := lab_some ha
    have eb := lab_some hb
    have := R.i0
    have := R.ij
    have := R.jn
    subst ea eb
    exact ⟨ne, okC_noRing (L.join (i := c.i) (j := c.j) (by omega) (by omega) (by omega) (by omega) ne).1 h⟩
theorem noRing_mid : ∀ {As : List C} {ls : List Int} {c : C} {Bs : List C}, noRing ls (As ++ c :: Bs) → noRing ls As ∧ lab (lbs ls As) c.i ≠ lab (lbs ls As) c.j
  | [], _, _, _, h => ⟨trivial, h.1⟩
  | a :: As, ls, c, Bs, ⟨ne, h⟩ => let z := noRing_mid (As := As) h; ⟨⟨ne, z.1⟩, z.2⟩
theorem okC_front : ∀ {As Bs : List C} {ls bef : List Int}, okC n ls bef (As ++ Bs) → okC n ls bef As
  | [], _, _, _, _ => trivial
  | a :: As, Bs, ls, bef, ⟨R, o, x, y, h1, h2, ne, h⟩ => ⟨R, o, x, y, h1, h2, ne, okC_front h⟩
theorem lbs_keep : ∀ {Cs : List C} {ls : List Int} {x y : Int}, LI n ls → (∀ c ∈ Cs, CR n c) → noRing ls Cs → 0 ≤ x → x < n → 0 ≤ y → y < n → lab ls x = lab ls y → lab (lbs ls Cs) x = lab (lbs ls Cs) y
  | [], _, _, _, _, _, _, _, _, _, _, h => h
  | c :: r, ls, x, y, L, hR, ⟨ne, hn⟩, x0, x1, y0, y1, h => by
    have R := hR c List.mem_cons_self
    have := R.i0
    have := R.ij
    have := R.jn
    show lab (lbs (joined ls (lab ls c.i) (lab ls c.j)) r) x = lab (lbs (joined ls (lab ls c.i) (lab ls c.j)) r) y
    refine lbs_keep (L.join (i := c.i) (j := c.j) (by omega) (by omega) (by omega) (by omega) ne).1 (fun d hd => hR d (List.mem_cons_of_mem _ hd)) hn x0 x1 y0 y1 ?_
    rw [lab_joined x0 (by rw [L.len]; exact x1), lab_joined y0 (by rw [L.len]; exact y1), h]
theorem lbs_same : ∀ {Cs : List C} {ls : List Int}, LI n ls → (∀ c ∈ Cs, CR n c) → noRing ls Cs → ∀ c ∈ Cs, lab (lbs ls Cs) c.i = lab (lbs ls Cs) c.j
  | [], _, _, _, _, c, h => absurd h List.not_mem_nil
  | c :: r, ls, L, hR, ⟨ne, hn⟩, d, hd => by
    have R := hR c List.mem_cons_self
    have := R.i0
    have := R.ij
    have := R.jn
    have L2 := (L.join (i := c.i) (j := c.j) (by omega) (by omega) (by omega) (by omega) ne).1
    have hR2 : ∀ d ∈ r, CR n d := fun d hd => hR d (List.mem_cons_of_mem _ hd)
    rcases List.mem_cons.mp
        hd with rfl | hd
    · show lab (lbs (joined ls (lab ls d.i) (lab ls d.j)) r) d.i = lab (lbs (joined ls (lab ls d.i) (lab ls d.j)) r) d.j
      refine lbs_keep L2 hR2 hn (by omega) (by omega) (by omega) (by omega) ?_
      rw [lab_joined (by omega) (by rw [L.len]; omega), lab_joined (by omega) (by rw [L.len]; omega), if_pos rfl, if_neg ne]
    · exact lbs_same L2 hR2 hn d hd
theorem lbs_phi {β : Type} (φ : Int → β) : ∀ {Cs : List C} {ls : List Int}, LI n ls → (∀ c ∈ Cs, CR n c) → noRing ls Cs → (∀ c ∈ Cs, φ c.i = φ c.j) → (∀ x : Int, 0 ≤ x → x < n → φ (lab ls x) = φ x) → ∀ x : Int, 0 ≤ x → x < n → φ (lab (lbs ls Cs) x) = φ x
  | [], _, _, _, _, _, h => h
  | c :: r, ls, L, hR, ⟨ne, hn⟩, hφ, h => by
    have R := hR c List.mem_cons_self
    have := R.i0
    have := R.ij
    have := R.jn
    show ∀ x : Int, 0 ≤ x → x < n → φ (lab (lbs (joined ls (lab ls c.i) (lab ls c.j)) r) x) = φ x
    refine lbs_phi φ (L.join (i := c.i) (j := c.j) (by omega) (by omega) (by omega) (by omega) ne).1 (fun d hd => hR d (List.mem_cons_of_mem _ hd)) hn (fun d hd => hφ d (List.mem_cons_of_mem _ hd)) fun x x0 x1 => ?_
    rw [lab_joined x0 (by rw [L.len]; exact x1)]
    split
    · rename_i e
      rw [h c.i (by omega) (by omega), hφ c List.mem_cons_self, ← h c.j (by omega) (by omega), ← e]
      exact h x x0 x1
    · exact h x x0 x1
/-- who is reached shares the label -/
theorem Full.lab_iff (F : Full Cs t ps) (hR : ∀ c ∈ Cs, CR n c) (nr : noRing (stL n) Cs) (t0 : 0 ≤ t) (t1 : t < n) {v : Int} (v0 : 0 ≤ v) (v1 : v < n) : Dom t ps v ↔ lab (lbs (stL n) Cs) v = lab (lbs (stL n) Cs) t := by
  have hij : ∀ c ∈ Cs, c.i < c.j := fun c hc => (hR c hc).ij
  have same := lbs_same LI.start hR nr
  constructor
  · have ed : ∀ {x y : Int}, Ed Cs x y → lab (lbs (stL n) Cs) y = lab (lbs (stL n) Cs) x := fun h => by
      obtain ⟨c, hc, h | h⟩ := (Ed.iff hij).mp h
      · rw [← h.1, ← h.2, same c hc]
      · rw [← h.1, ← h.2, same c hc]
    have all : ∀ (m : Nat) (p : Int × Int), ps[m]? = some p → lab (lbs (stL n) Cs) p.1 = lab (lbs (stL n) Cs) t := by
      intro m
      induction m using
          Nat.strongRecOn with
      | _ m ih =>
        intro p hp
        rw [ed (F.ed p (List.mem_of_getElem? hp))]
        rcases F.up m p hp with e | ⟨j, q, lt, hq, e⟩
        · rw [e]
        · rw [← e]
          exact ih j lt q hq
    rintro (rfl | ⟨p, hp, rfl⟩)
    · rfl
    · obtain ⟨m, hm⟩ := List.getElem?_of_mem hp
      exact all m p hm
  · intro h
    classical
    have dm : ∀ x : Int, decide (Dom t ps (lab (lbs (stL n) Cs) x)) = decide (Dom t ps x) ∨ ¬ (0 ≤ x ∧ x < n) := fun x => by
      by_cases b : 0 ≤ x ∧ x < n
      · refine .inl (lbs_phi (fun x => decide (Dom t ps x)) LI.start hR nr (fun c hc => ?_) (fun x x0 x1 => by rw [lab_st x0 x1]) x b.1 b.2)
        have e1 : Ed Cs c.i c.j := (Ed.iff hij).mpr ⟨c, hc, .inl ⟨rfl, rfl⟩⟩
        have e2 := e1.symm hij
        by_cases d : Dom t ps c.i
        · rw [decide_eq_true d, decide_eq_true (F.cl _ _ d e1)]
        · rw [decide_eq_false d, decide_eq_false fun z => d (F.cl _ _ z e2)]
      · exact .inr b
    have a := (dm v).resolve_right fun z => z ⟨v0, v1⟩
    have b := (dm t).resolve_right fun z => z ⟨t0, t1⟩
    rw [h, b, decide_eq_true (show Dom t ps t from .inl rfl)] at a
    exact of_decide_eq_true a.symm
/-- groups: one for each label that is left -/
theorem grp_count (hR : ∀ c ∈ Cs, CR n c) (nr : noRing (stL n) Cs) {f : Nat → List Int} (hf : ∀ w, w < n → Cmp Cs (w : Nat) (f w)) : (grp f n).length + Cs.length = n := by
  obtain ⟨L, ct⟩ := noRing_count LI.start hR nr
  rw [fixn_st, List.length_range] at ct
  have hij : ∀ c ∈ Cs, c.i < c.j := fun c hc => (hR c hc).ij
  have key : ∀ {w v : Nat}, w < n → v < n → (((v : Int) ∈ f w) ↔ lab (lbs (stL n) Cs) v = lab (lbs (stL n) Cs) w) := fun hw hv => by
    obtain ⟨ps, F, m⟩ := (hf _ hw).full
    exact (m _).trans (F.lab_iff hR nr (by omega) (by omega) (by omega) (by omega))
  have one : ∀ {w v : Nat}, w < n → v < n → lab (lbs (stL n) Cs) v = lab (lbs (stL n) Cs) w → f w = f v := fun hw hv e => (hf _ hw).same hij (hf _ hv) ((key hw hv).mpr e)
  have hd : ∀ {w : Nat}, w < n → ∃ h : Nat, h < n ∧ (f w).headD (-1) = h ∧ (h : Int) ∈ f w := fun {w} hw => by
    have c := hf w hw
    have b := c.bound hR (by omega) (by omega)
    cases e : f w with
    | nil => exact absurd e (c.head_le hR)
    | cons x xs =>
      have bx := b.2 x (by rw [e]; exact List.mem_cons_self)
      exact ⟨x.toNat, by omega, by show x = _; omega, by rw [Int.toNat_of_nonneg bx.1]; exact List.mem_cons_self⟩
  have gl : (grp f n).length = ((List.range n).filter fun (w : Nat) => decide ((f w).headD (-1) = w)).length := by unfold grp; rw [List.length_map]
  have mM : ∀ w : Nat, w ∈ ((List.range n).filter fun (w : Nat) => decide ((f w).headD (-1) = w)) ↔ w < n ∧ (f w).headD (-1) = w := fun w => by rw [List.mem_filter, List.mem_range, decide_eq_true_iff]
  have nM : ((List.range n).filter fun (w : Nat) => decide ((f w).headD (-1) = w)).Nodup := List.Pairwise.filter _ List.nodup_range
  rw [gl]
  have le1 : ((List.range n).filter fun (w : Nat) => decide ((f w).headD (-1) = w)).length ≤ (fixn n (lbs (stL n) Cs)).length := by
    have z := len_le (L := ((List.range n).filter fun (w : Nat) => decide ((f w).headD (-1) = w)).map fun (w : Nat) => (lab (lbs (stL n) Cs) w).toNat) (M := fixn n (lbs (stL n) Cs))
      (List.pairwise_map.mpr (List.Pairwise.imp_of_mem (fun {a b} ha hb ne e => ne ?_) nM)) fun x hx => ?_
    · obtain ⟨a1, a2⟩ := (mM a).mp ha
      obtain ⟨b1, b2⟩ := (mM b).mp hb
      have ba := L.bd a (by omega) (by omega)
      have bb := L.bd b (by omega) (by omega)
      have q := one a1 b1 (by omega)
      rw [q, b2] at a2
      omega
    · obtain ⟨w, hw, rfl⟩ := List.mem_map.mp hx
      obtain ⟨a1, a2⟩ := (mM w).mp hw
      have ba := L.bd w (by omega) (by omega)
      exact mem_fixn.mpr ⟨by omega, by rw [Int.toNat_of_nonneg ba.1]; exact L.fx _ (by omega) (by omega)⟩
    · rw [List.length_map] at z
      exact z
  have le2 : (fixn n (lbs (stL n) Cs)).length ≤ ((List.range n).filter fun (w : Nat) => decide ((f w).headD (-1) = w)).length := by
    have z := len_le (L := (fixn n (lbs (stL n) Cs)).map fun (x : Nat) => ((f x).headD (-1)).toNat) (M := ((List.range n).filter fun (w : Nat) => decide ((f w).headD (-1) = w)))
      (List.pairwise_map.mpr (List.Pairwise.imp_of_mem (fun {a b} ha hb ne e => ne ?_) fixn_nd)) fun x hx => ?_
    · obtain ⟨a1, a2⟩ := mem_fixn.mp ha
      obtain ⟨b1, b2⟩ := mem_fixn.mp hb
      obtain ⟨h, h1, h2, h3⟩ := hd a1
      obtain ⟨g, g1, g2, g3⟩ := hd b1
      have eh : h = g := by omega
      subst eh
      have q1 := (key a1 h1).mp h3
      have q2 := (key b1 h1).mp g3
      omega
    · obtain ⟨w, hw, rfl⟩ := List.mem_map.mp hx
      obtain ⟨a1, a2⟩ := mem_fixn.mp hw
      obtain ⟨h, h1, h2, h3⟩ := hd a1
      rw [h2]
      refine (mM _).mpr ⟨h1, ?_⟩
      have q := (hf w a1).same hij (hf h h1) h3
      show (f h).headD (-1) = h
      rw [← q, h2]
    · rw [List.length_map] at z
      exact z
  omega
end Yd
end

section
set_option Elab.async false
set_option linter.all false
set_option maxRecDepth 100000
set_option maxHeartbeats 801000
namespace K55
open PySem L2 Mir Yd Tx
variable {S : Store} {Q : D → Store → Prop} {X : XC}
def pa_1 : MS := mIte (mNot (mT (mIsi .str (mVar 0)))) (mNever) (mNext)
def pa_2 : MS := mSet 1 (mTup (mCons (mTup (mNil)) (mCons (mTup (mNil)) (mNil))))
def pb_1 : MS := mSet 1 (mCall 2 m_with_line (mCons (mVar 1) (mCons (mVar 3) (mNil))))
def pb_2 : MS := mIte (mNot (mT (mCall 1 mis_yard (mCons (mVar 1) (mNil))))) (mNever) (mNext)
def pa_3 : MS := mFor (mEnumF 1 (mCons (mStr2 fSplit (mVar 0) (mC (.str "\n"))) (mNil))) (gQ 2 (gCo (gN 2) (gCo (gN 3) (gNi)))) (mSeq pb_1 pb_2)
def pa_4 : MS := mRet (mVar 1)
theorem pa__eq : mparse_yard = mFn 1 3 (mSeq pa_1 (mSeq pa_2 (mSeq pa_3 pa_4))) := rfl
section
variable {M : ME} {W : List (Int × Int)} {Cs : List C}
def linesY (W : List (Int × Int)) (Cs : List C) : List Str := W.map wln ++ Cs.map cln
def txtY (W : List (Int × Int)) (Cs : List C) : Str := Txt.join "\n" (linesY W Cs)
theorem sm_w (Y : Yard W Cs) {p : Int × Int} (h : p ∈ W) : Sm11 p.1 ∧ Sm11 p.2 := by
  have := Y.w.ok p h
  have : 10 ^ 11 = 100000000000 := by decide
  unfold Sm11
  constructor <;> omega
theorem sm_c (Y : Yard W Cs) {c : C} (h : c ∈ Cs) : Sm11 c.i ∧ Sm11 c.j ∧ Sm11 c.l ∧ Sm11 c.g := by
  have R := okC_CR Y.c c h
  have := R.i0
  have := R.ij
  have := R.jn
  have := R.l0
  have := R.lg
  have := R.g0
  have := Y.w.hi
  have : 10 ^ 11 = 100000000000 := by decide
  unfold Sm11
  refine ⟨?_, ?_, ?_, ?_⟩ <;> omega
theorem lines_len (Y : Yard W Cs) : ∀ y ∈ linesY W Cs, y.length ≤ 100 := fun y hy => by
  rcases List.mem_append.mp hy with h | h
  · obtain ⟨p, hp, rfl⟩ := List.mem_map.mp h
    exact line_len2 (by decide +kernel) (sm_w Y hp).1 (sm_w Y hp).2
  · obtain ⟨c, hc, rfl⟩ := List.mem_map.mp h
    obtain ⟨h1, h2, h3, h4⟩ := sm_c Y hc
    exact line_len4 (by decide +kernel) h1 h2 h3 h4
theorem lines_free : ∀ y ∈ linesY W Cs, 10 ∉ TL.tl y := fun y hy => by
  rcases List.mem_append.mp hy with h | h
  · obtain ⟨p, hp, rfl⟩ := List.mem_map.mp h
    exact line_free (by decide +kernel)
  · obtain ⟨c, hc, rfl⟩ := List.mem_map.mp h
    exact line_free (by decide +kernel)
theorem lines_num : (linesY W Cs).length = W.length + Cs.length := by unfold linesY; rw [List.length_append, List.length_map, List.length_map]
theorem lines_sum : ∀ {ys : List Str}, (∀ y ∈ ys, y.length ≤ 100) → (ys.map (·.length)).sum ≤ ys.length * 100
  | [], _ => by simp
  | y :: ys, h => by
    have := lines_sum (ys := ys) fun z hz => h z (List.mem_cons_of_mem _ hz)
    have := h y List.mem_cons_self
    rw [List.map_cons, List.sum_cons,
        List.length_cons, Nat.succ_mul]
    omega
theorem nl_len : ("\n" : Str).length = 1 := by decide +kernel
theorem txt_len (Y : Yard W Cs) (hC : Cs.length ≤ 100) : (txtY W Cs).length ≤ 14140 := by
  have z := join_len (c := "\n") (linesY W Cs) 100 (lines_len Y)
  rw [lines_num, nl_len] at z
  have h40 := Y.w.hi
  unfold txtY
  have : (W.length + Cs.length) * (100 + 1) ≤ 140 * 101 := Nat.mul_le_mul (by omega) (by omega)
  omega
theorem txt_split (Y : Yard W Cs) : Txt.split (txtY W Cs) "\n" = linesY W Cs :=
  text_split (fun e => by
    have := congrArg List.length e
    rw [lines_num] at this
    have := Y.w.lo
    rw [List.length_nil] at *
    omega) lines_free
/-- what is read so far is a yard -/
theorem pre_yard (Y : Yard W Cs) {k : Nat} (h1 : 1 ≤ k) : Yard (W.take k) (Cs.take (k - W.length)) := by
  by_cases h : k ≤ W.length
  · rw [show k - W.length = 0 by omega, List.take_zero]
    exact ⟨⟨by rw [List.length_take]; omega, by rw [List.length_take]; have := Y.w.hi; omega, fun p hp => Y.w.ok p (List.mem_of_mem_take hp)⟩, trivial⟩
  · rw [List.take_of_length_le (by omega)]
    refine ⟨Y.w, ?_⟩
    have := Y.c
    rw [← List.take_append_drop (k - W.length) Cs] at this
    exact okC_front this
theorem w_body {i : Nat} {z : Str} {t0 : D} (Y : Yard W Cs) (hC : Cs.length ≤ 100) (hl : (linesY W Cs)[i]? = some z)
    (h : M.nx [some t0, some (yD (W.take (i + 1)) (Cs.take (i + 1 - W.length))), some (.int (1 + (i : Int))), some (.str z)] S) :
    pb_1 { M with nx := pb_2 M } [some t0, some (yD (W.take i) (Cs.take (i - W.length))), some (.int (1 + (i : Int))), some (.str z)] S := by
  have h40 := Y.w.hi
  have fin : ∀ {d : D}, d = yD (W.take (i + 1)) (Cs.take (i + 1 - W.length)) → pb_2 M [some t0, some d, some (.int (1 + (i : Int))), some (.str z)] S := fun {d} e => by
    subst e
    unfold pb_2
    ac_rfl
    refine w_is_yard (pre_yard Y (by omega)) ?_
    ac_rfl
    exact h
  unfold pb_1
  ac_rfl
  by_cases c : i < W.length
  · unfold linesY at hl
    rw [List.getElem?_append_left (by rw [List.length_map]; exact c), List.getElem?_map, List.getElem?_eq_getElem c] at hl
    cases hl
    obtain ⟨s1, s2⟩ := sm_w Y (List.getElem_mem c)
    rw [show i - W.length = 0 by omega, List.take_zero]
    refine w_wagon s1 s2 (by rw [List.length_take]; omega) ?_
    refine fin ?_
    rw [show i + 1 - W.length = 0 by omega, List.take_zero, List.take_add_one, List.getElem?_eq_getElem c]
    rfl
  · unfold linesY at hl
    rw [List.getElem?_append_right (by rw [List.length_map]; omega), List.getElem?_map, List.length_map] at hl
    cases hj : Cs[i - W.length]? with
    | none => rw [hj] at hl; cases hl
    | some c1 =>
      rw [hj] at hl
      cases hl
      obtain ⟨s1, s2, s3, s4⟩ := sm_c Y (List.mem_of_getElem? hj)
      rw [List.take_of_length_le (by omega)]
      refine w_coup s1 s2 s3 s4 (by rw [List.length_take]; omega) ?_
      refine fin ?_
      rw [List.take_of_length_le (l := W) (i := i + 1) (by omega), show i + 1 - W.length = (i - W.length) + 1 by omega, List.take_add_one, hj]
      rfl
theorem w_parse (Y : Yard W Cs) (hC : Cs.length ≤ 100) (h : Q (yD W Cs) S) : mparse_yard [.str (txtY W Cs)] S Q X := by
  have h40 := Y.w.hi
  have hl := txt_len Y hC
  rw [pa__eq]
  refine ⟨rfl, ?_⟩
  show mSeq pa_1 _ _ [some (.str (txtY W Cs)), none, none, none] S
  unfold pa_1
  ac_rfl
  rw [show (!Ty.str.isi Ty.str) = false from rfl]
  ac_rfl
  unfold pa_2
  ac_rfl
  unfold pa_3
  ac_rfl
  refine enumF_to ?_
  ac_rfl
  refine str2_to ?_
  ac_rfl
  refine s2K_s ?_
  ac_rfl
  refine split_s (by rw [nl_len]; rfl) (by rw [sizeLine_eq]; omega) ?_
  rw [txt_split Y]
  ac_rfl
  refine efK_l ?_
  refine for_inv0 (fun i ρ T => ∃ a2 a3, T = S ∧ ρ = [some (.str (txtY W Cs)), some (yD (W.take i) (Cs.take (i - W.length))), a2, a3])
    ⟨none, none, rfl, by rw [List.take_zero, Nat.zero_sub, List.take_zero]; rfl⟩ (fun _ _ _ _ => trivial) (fun i d ρ T N hd hI hN => ?_) fun ρ T hI => ?_
  · obtain ⟨a2, a3, rfl, rfl⟩ := hI
    obtain ⟨y, hy, rfl⟩ := enF_get.mp hd
    rw [List.getElem?_map] at hy
    cases hl : (linesY W Cs)[i]? with
    | none => rw [hl] at hy; cases hy
    | some z =>
      rw [hl] at hy; cases hy
      ac_rfl
      exact w_body Y hC hl (hN _ _ ⟨_, _, rfl, rfl⟩)
  · obtain ⟨a2, a3, rfl, rfl⟩ := hI
    rw [enF_len, List.length_map, lines_num, List.take_of_length_le (by omega), List.take_of_length_le (by omega)]
    unfold pa_4
    ac_rfl
    exact cut_self h
end
end K55
end

section
set_option Elab.async false
set_option linter.all false
set_option maxRecDepth 100000
set_option maxHeartbeats 801000
namespace K55
open PySem L2 Mir Yd Tx
variable {S : Store} {Q : D → Store → Prop} {X : XC}
def yt_1 : MS := mDrop (mCall 1 mvalidate_yard (mCons (mVar 0) (mNil)))
def yt_2 : MS := mSet 1 (mLc (mWk (mOp fIx (mVar 0) (mC (.int 0)))) (.tp [.nm 3, .nm 4]) [3, 4] (mYes) (mFs [mC (.str "wagon "), mVar 3, mC (.str " "), mVar 4] Str.empty))
def yt_3 : MS := mSet 2 (mLc (mWk (mOp fIx (mVar 0) (mC (.int 1)))) (.tp [.nm 5, .nm 6, .nm 7, .nm 8]) [5, 6, 7, 8] (mYes) (mFs [mC (.str "coupling "), mVar 5, mC (.str " "), mVar 6, mC (.str " "), mVar 7, mC (.str " "), mVar 8] Str.empty))
def yt_4 : MS := mRet (mStr2 fJoin (mC (.str "\n")) (mOp fAdd (mVar 1) (mVar 2)))
theorem yt__eq : myard_text = mFn 1 8 (mSeq yt_1 (mSeq yt_2 (mSeq yt_3 yt_4))) := rfl
def lt_1 : MS := mSet 1 (mLc (mWk (mOp fIx (mVar 0) (mC (.int 0)))) (.nm 2) [2] (mYes) (mOp fAdd (mC (.str "wagon ")) (mStr2 fJoin (mC (.str " ")) (mLc (mWk (mVar 2)) (.nm 4) [4] (mYes) (mApp fStrI (mCons (mVar 4) (mNil)))))))
def lt_2 : MS := mSet 1 (mOp fAdd (mVar 1) (mLc (mWk (mOp fIx (mVar 0) (mC (.int 1)))) (.nm 3) [3] (mYes) (mOp fAdd (mC (.str "coupling ")) (mStr2 fJoin (mC (.str " ")) (mLc (mWk (mVar 3)) (.nm 4) [4] (mYes) (mApp fStrI (mCons (mVar 4) (mNil))))))))
def lt_3 : MS := mRet (mStr2 fJoin (mC (.str "\n")) (mVar 1))
theorem lt__eq : m_law_text = mFn 1 4 (mSeq lt_1 (mSeq lt_2 lt_3)) := rfl
section
variable {M : ME} {W : List (Int × Int)} {Cs : List C}
theorem tl_e : TL.tl Str.empty = [] := by decide +kernel
theorem tl_w : TL.tl ("wagon " : Str) = TL.tl ("wagon" : Str) ++ [32] := by decide +kernel
theorem tl_c : TL.tl ("coupling " : Str) = TL.tl ("coupling" : Str) ++ [32] := by decide +kernel
theorem fs_w {p : Int × Int} : (((Str.empty ++ ("wagon " : Str)) ++ num p.1) ++ (" " : Str)) ++ num p.2 = wln p := TL.ext_tl (by
  unfold wln
  rw [line_two]
  simp only [TL.tl_append, tl_e, tl_w, sp_tl, List.nil_append, List.append_assoc])
theorem fs_c {c : C} : (((((((Str.empty ++ ("coupling " : Str)) ++ num c.i) ++ (" " : Str)) ++ num c.j) ++ (" " : Str)) ++ num c.l) ++ (" " : Str)) ++ num c.g = cln c := TL.ext_tl (by
  unfold cln
  rw [line_four]
  simp only [TL.tl_append, tl_e, tl_c, sp_tl, List.nil_append, List.append_assoc])
theorem lt_w {p : Int × Int} : ("wagon " : Str) ++ Txt.join " " [num p.1, num p.2] = wln p := TL.ext_tl (by
  unfold wln
  rw [line_two, TL.tl_append, TL.join_eq, TL.tl_join, tl_w, sp_tl, List.append_assoc]
  rfl)
theorem lt_c {c : C} : ("coupling " : Str) ++ Txt.join " " [num c.i, num c.j, num c.l, num c.g] = cln c := TL.ext_tl (by
  unfold cln
  rw [line_four, TL.tl_append, TL.join_eq, TL.tl_join, tl_c, sp_tl, List.append_assoc]
  rfl)
theorem w_yard_text (Y : Yard W Cs) (hC : Cs.length ≤ 100) (h : Q (.str (txtY W Cs)) S) : myard_text [yD W Cs] S Q X := by
  have h40 := Y.w.hi
  rw [yt__eq]
  refine ⟨rfl, ?_⟩
  show mSeq yt_1 _ _ [some (yD W Cs), none, none, none, none, none, none, none, none] S
  unfold yt_1
  ac_rfl
  refine w_validate Y ?_
  ac_rfl
  unfold yt_2
  ac_rfl
  refine lc_m W wD (fun _ => True) (fun _ => true) (fun p => .str (wln p)) (fun Q' hq => ?_) (by omega) (fun _ _ _ => trivial) (fun l nl p hp acc Q' X h => h) (fun l nl p hp _ acc Q' X h => ?_) ?_
  · unfold yD
    ac_rfl
    exact hq
  · obtain ⟨s1, s2⟩ := sm_w Y hp
    have hl := line_len2 (w := "wagon") (by decide +kernel) s1 s2
    have e : (wln p).length = (line "wagon" [p.1, p.2]).length := rfl
    rw [← e, ← fs_w] at hl
    simp only [Str.length_append, num] at hl
    show mFs [mC (.str "wagon "), mVar 3, mC (.str " "), mVar 4] Str.empty [some (yD W Cs), none, none, some (.int p.1), some (.int p.2), none, none, none, none] _ Q' X
    refine fs_to ?_
    ac_rfl
    refine fsK_s (by rw [sizeLine_eq]; simp only [Str.length_append]; omega) ?_
    refine fs_to ?_
    ac_rfl
    refine fsK_i (lg s1) (by rw [sizeLine_eq]; simp only [Str.length_append]; omega) ?_
    refine fs_to ?_
    ac_rfl
    refine fsK_s (by rw [sizeLine_eq]; simp only [Str.length_append]; omega) ?_
    refine fs_to ?_
    ac_rfl
    refine fsK_i (lg s2) (by rw [sizeLine_eq]; simp only [Str.length_append]; omega) ?_
    refine fs_nil ?_
    have z : Q' (.str ((((Str.empty ++ ("wagon " : Str)) ++ num p.1) ++ (" " : Str)) ++ num p.2)) (put S l (.lst acc)) := by
      rw [fs_w]
      exact h
    exact z
  rw [List.filter_eq_self.mpr fun _ _ => rfl]
  ac_rfl
  unfold yt_3
  ac_rfl
  refine lc_m Cs cD (fun _ => True) (fun _ => true) (fun p => .str (cln p)) (fun Q' hq => ?_) (by omega) (fun _ _ _ => trivial) (fun l nl p hp acc Q' X h => h) (fun l nl c hp _ acc Q' X h => ?_) ?_
  · unfold yD
    ac_rfl
    exact hq
  · obtain ⟨s1, s2, s3, s4⟩ := sm_c Y hp
    have hl := line_len4 (w := "coupling") (by decide +kernel) s1 s2 s3 s4
    have e : (cln c).length = (line "coupling" [c.i, c.j, c.l, c.g]).length := rfl
    rw [← e, ← fs_c] at hl
    simp only [Str.length_append, num] at hl
    show mFs [mC (.str "coupling "), mVar 5, mC (.str " "), mVar 6, mC (.str " "), mVar 7, mC (.str " "), mVar 8] Str.empty [some (yD W Cs), some (.lst (W.map fun p => .str (wln p))), none, none, none, some (.int c.i), some (.int c.j), some (.int c.l), some (.int c.g)] _ Q' X
    refine fs_to ?_
    ac_rfl
    refine fsK_s (by rw [sizeLine_eq]; simp only [Str.length_append]; omega) ?_
    refine fs_to ?_
    ac_rfl
    refine fsK_i (lg s1) (by rw [sizeLine_eq]; simp only [Str.length_append]; omega) ?_
    refine fs_to ?_
    ac_rfl
    refine fsK_s (by rw [sizeLine_eq]; simp only [Str.length_append]; omega) ?_
    refine fs_to ?_
    ac_rfl
    refine fsK_i (lg s2) (by rw [sizeLine_eq]; simp only [Str.length_append]; omega) ?_
    refine fs_to ?_
    ac_rfl
    refine fsK_s (by rw [sizeLine_eq]; simp only [Str.length_append]; omega) ?_
    refine fs_to ?_
    ac_rfl
    refine fsK_i (lg s3) (by rw [sizeLine_eq]; simp only [Str.length_append]; omega) ?_
    refine fs_to ?_
    ac_rfl
    refine fsK_s (by rw [sizeLine_eq]; simp only [Str.length_append]; omega) ?_
    refine fs_to ?_
    ac_rfl
    refine fsK_i (lg s4) (by rw [sizeLine_eq]; simp only [Str.length_append]; omega) ?_
    refine fs_nil ?_
    have z : Q' (.str ((((((((Str.empty ++ ("coupling " : Str)) ++ num c.i) ++ (" " : Str)) ++ num c.j) ++ (" " : Str)) ++ num c.l) ++ (" " : Str)) ++ num c.g)) (put S l (.lst acc)) := by
      rw [fs_c]
      exact h
    exact z
  rw [List.filter_eq_self.mpr fun _ _ => rfl]
  ac_rfl
  unfold yt_4
  ac_rfl
  refine str2_to ?_
  ac_rfl
  refine s2K_s ?_
  ac_rfl
  refine add_ll (by rw [List.length_map, List.length_map]; omega) ?_
  have e : (W.map fun p => D.str (wln p)) ++ (Cs.map fun c => D.str (cln c)) = (linesY W Cs).map D.str := by
    unfold linesY
    rw [List.map_append, List.map_map, List.map_map]
    rfl
  rw [e]
  have hs := lines_sum (lines_len Y)
  rw [lines_num] at hs
  refine join_l (by rw [nl_len, lines_num]; omega) ?_
  exact cut_self h
end
end K55
end

section
set_option Elab.async false
set_option linter.all false
set_option maxRecDepth 100000
set_option maxHeartbeats 801000
namespace K55
open PySem L2 Mir Yd Tx
variable {S : Store} {Q : D → Store → Prop} {X : XC}
section
variable {M : ME} {W : List (Int × Int)} {Cs : List C}
/-- the integers of a row, written -/
theorem nums_lc {ρ : Mir.Env} {v k : Nat} {is : List Int} (hv : ρ[v]? = some (some (.tup (is.map D.int)))) (hn : is.length ≤ 10) (hs : ∀ i ∈ is, i.natAbs < 10 ^ 11) (hk : ∀ i : Int, (wipM ρ [k]).set k (some (.int i)) = (wipM ρ [k]).set k (some (.int i)) ∧ ((wipM ρ [k]).set k (some (.int i)))[k]? = some (some (.int i)))
    (h : Q (.lst ((is.map num).map D.str)) S) : mLc (mWk (mVar v)) (.nm k) [k] (mYes) (mApp fStrI (mCons (mVar k) (mNil))) ρ S Q X := by
  refine lc_m is D.int (fun _ => True) (fun _ => true) (fun i => .str (num i)) (fun Q' hq => ?_) (by omega) (fun _ _ _ => trivial) (fun l nl i hi acc Q' X h => h) (fun l nl i hi _ acc Q' X h => ?_) ?_
  · unfold mWk mVar
    rw [hv]
    exact hq
  · show mApp fStrI (mCons (mVar k) mNil) ((wipM ρ [k]).set k (some (.int i))) _ Q' X
    unfold mApp mCons mNil mVar
    rw [(hk i).2]
    exact str_i (lg (hs i hi)) h
  · rw [List.filter_eq_self.mpr fun _ _ => rfl]
    rw [List.map_map] at h
    exact h
theorem sp_len : (" " : Str).length = 1 := by decide +kernel
theorem w_law_text (Y : Yard W Cs) (hC : Cs.length ≤ 100) (h : Q (.str (txtY W Cs)) S) : m_law_text [yD W Cs] S Q X := by
  have h40 := Y.w.hi
  rw [lt__eq]
  refine ⟨rfl, ?_⟩
  show mSeq lt_1 _ _ [some (yD W Cs), none, none, none, none] S
  unfold lt_1
  ac_rfl
  refine lc_m W wD (fun _ => True) (fun _ => true) (fun p => .str (wln p)) (fun Q' hq => ?_) (by omega) (fun _ _ _ => trivial) (fun l nl p hp acc Q' X h => h) (fun l nl p hp _ acc Q' X h => ?_) ?_
  · unfold yD
    ac_rfl
    exact hq
  · obtain ⟨s1, s2⟩ := sm_w Y hp
    have hs : ∀ i ∈ [p.1, p.2], i.natAbs < 10 ^ 11 := fun i hi => by
      simp only [List.mem_cons, List.not_mem_nil, or_false] at hi
      rcases hi with rfl | rfl
      · exact s1
      · exact s2
    have hl := line_len2 (w := "wagon") (by decide +kernel) s1 s2
    have e : (wln p).length = (line "wagon" [p.1, p.2]).length := rfl
    rw [← e, ← lt_w] at hl
    rw [Str.length_append] at hl
    show mOp fAdd _ _ [some (yD W Cs), none, some (wD p), none, none] _ Q' X
    ac_rfl
    refine str2_to ?_
    ac_rfl
    refine s2K_s ?_
    refine nums_lc (is := [p.1, p.2]) rfl (by simp) hs (fun i => ⟨rfl, rfl⟩) ?_
    have l1 := num_len s1
    have l2 := num_len s2
    refine join_l (ys := [num p.1, num p.2]) (by rw [sp_len]; simp only [List.map_cons, List.map_nil, List.sum_cons, List.sum_nil, List.length_cons, List.length_nil]; omega) ?_
    refine add_ss (by rw [sizeLine_eq]; omega) ?_
    rw [lt_w]
    exact h
  rw [List.filter_eq_self.mpr fun _ _ => rfl]
  ac_rfl
  unfold lt_2
  ac_rfl
  refine lc_m Cs cD (fun _ => True) (fun _ => true) (fun p => .str (cln p)) (fun Q' hq => ?_) (by omega) (fun _ _ _ => trivial) (fun l nl p hp acc Q' X h => h) (fun l nl c hp _ acc Q' X h => ?_) ?_
  · unfold yD
    ac_rfl
    exact hq
  · obtain ⟨s1, s2, s3, s4⟩ := sm_c Y hp
    have hs : ∀ i ∈ [c.i, c.j, c.l, c.g], i.natAbs < 10 ^ 11 := fun i hi => by
      simp only [List.mem_cons, List.not_mem_nil, or_false] at hi
      rcases hi with rfl | rfl | rfl | rfl
      · exact s1
      · exact s2
      · exact s3
      · exact s4
    have hl := line_len4 (w := "coupling") (by decide +kernel) s1 s2 s3 s4
    have e : (cln c).length = (line "coupling" [c.i, c.j, c.l, c.g]).length := rfl
    rw [← e, ← lt_c] at hl
    rw [Str.length_append] at hl
    show mOp fAdd _ _ [some (yD W Cs), some (.lst (W.map fun p => .str (wln p))), none, some (cD c), none] _ Q' X
    ac_rfl
    refine str2_to ?_
    ac_rfl
    refine s2K_s ?_
    refine nums_lc (is := [c.i, c.j, c.l, c.g]) rfl (by simp) hs (fun i => ⟨rfl, rfl⟩) ?_
    have l1 := num_len s1
    have l2 := num_len s2
    have l3 := num_len s3
    have l4 := num_len s4
    refine join_l (ys := [num c.i, num c.j, num c.l, num c.g]) (by rw [sp_len]; simp only [List.map_cons, List.map_nil, List.sum_cons, List.sum_nil, List.length_cons, List.length_nil]; omega) ?_
    refine add_ss (by rw [sizeLine_eq]; omega) ?_
    rw [lt_c]
    exact h
  rw [List.filter_eq_self.mpr fun _ _ => rfl]
  refine add_ll (by rw [List.length_map, List.length_map]; omega) ?_
  have e : (W.map fun p => D.str (wln p)) ++ (Cs.map fun c => D.str (cln c)) = (linesY W Cs).map D.str := by
    unfold linesY
    rw [List.map_append, List.map_map, List.map_map]
    rfl
  rw [e]
  ac_rfl
  unfold lt_3
  ac_rfl
  refine str2_to ?_
  ac_rfl
  refine s2K_s ?_
  ac_rfl
  have hs := lines_sum (lines_len Y)
  rw [lines_num] at hs
  refine join_l (by rw [nl_len, lines_num]; omega) ?_
  exact cut_self h
end
end K55
end

section
set_option Elab.async false
set_option linter.all false
set_option maxRecDepth 100000
set_option maxHeartbeats 801000
namespace K55
open PySem L2 Mir Yd Tx
variable {S : Store} {Q : D → Store → Prop} {X : XC}
def lr_1 : MS := mPar 2 3 (mCons (mNew (mNil)) (mCons (mNew (mNil)) (mNil)))
def lb_1 : MS := mSet 4 (mApp fTuple (mCons (mLc (mWk (mSlice (mStr2 fSplit (mVar 1) (mC (.str " "))) (mP (mC (.int 1))) (mNoP))) (.nm 5) [5] (mYes) (mApp fIntS (mCons (mVar 5) (mNil)))) (mNil)))
def lb_2 : MS := mIte (mT (mOp fEq (mCutS (mVar 1) (mNoP) (mP (mC (.int 6)))) (mC (.str "wagon ")))) (mDrop (mMeth gAppend (mVar 2) (mCons (mVar 4) (mNil)))) (mDrop (mMeth gAppend (mVar 3) (mCons (mVar 4) (mNil))))
def lr_2 : MS := mFor (mWk (mStr2 fSplit (mVar 0) (mC (.str "\n")))) (gN 1) (mSeq lb_1 lb_2)
def lr_3 : MS := mRet (mTup (mCons (mApp fTuple (mCons (mVar 2) (mNil))) (mCons (mApp fTuple (mCons (mVar 3) (mNil))) (mNil))))
theorem lr__eq : m_law_read = mFn 1 5 (mSeq lr_1 (mSeq lr_2 lr_3)) := rfl
section
variable {M : ME} {W : List (Int × Int)} {Cs : List C}
theorem tl_cut6 (z : Str) : TL.tl (cutS z none (some 6)) = (TL.tl z).take 6 := by
  unfold cutS
  rw [TL.tl_mk, HT.sIx_none, show (6 : Int) = ((6 : Nat) : Int) from rfl, HT.sIx_nat, Nat.sub_zero, List.drop_zero, TL.len_tl]
  by_cases h : 6 ≤ (TL.tl z).length
  · rw [Nat.min_eq_left h]
  · rw [Nat.min_eq_right (by omega),
        List.take_of_length_le (Nat.le_refl _), List.take_of_length_le (by omega)]
theorem cut_w {p : Int × Int} : cutS (wln p) none (some 6) = "wagon " := TL.ext_tl (by
  rw [tl_cut6]
  unfold wln
  rw [line_two, show TL.tl ("wagon " : Str) = [119, 97, 103, 111, 110, 32] by decide +kernel, show TL.tl ("wagon" : Str) = [119, 97, 103, 111, 110] by decide +kernel]
  rfl)
theorem cut_c {c : C} : ¬ cutS (cln c) none (some 6) = "wagon " := fun e => by
  have e := congrArg TL.tl e
  rw [tl_cut6] at e
  unfold cln at e
  rw [line_four, show TL.tl ("wagon " : Str) = [119, 97, 103, 111, 110, 32] by decide +kernel, show TL.tl ("coupling" : Str) = [99, 111, 117, 112, 108, 105, 110, 103] by decide +kernel] at e
  cases e
/-- the integers of a line, read -/
theorem lb1_at {w : Str} {is : List Int} {a0 a2 a3 a4 a5 : Option D} (hw : 32 ∉ TL.tl w) (hl : (line w is).length ≤ 1000) (hs : ∀ i ∈ is, i.natAbs < 10 ^ 11) (hn : is.length ≤ 10)
    (h : M.nx [a0, some (.str (line w is)), a2, a3, some (.tup (is.map D.int)), a5] S) : lb_1 M [a0, some (.str (line w is)), a2, a3, a4, a5] S := by
  unfold lb_1
  ac_rfl
  refine lc_m is (fun i => D.str (num i)) (fun _ => True) (fun _ => true) D.int (fun Q' hq => ?_) (by omega) (fun _ _ _ => trivial) (fun l nl i hi acc Q' X h => h) (fun l nl i hi _ acc Q' X h => ?_) ?_
  · ac_rfl
    refine str2_to ?_
    ac_rfl
    refine s2K_s ?_
    ac_rfl
    refine split_s (by rw [sp_len]; rfl) (by rw [sizeLine_eq]; omega) ?_
    rw [line_split hw]
    ac_rfl
    have e : cutD ((lineL w is).map D.str) (some 1) none = is.map fun i => D.str (num i) := by
      rw [show (1 : Int) = ((1 : Nat) : Int) from rfl, cut_drop]
      unfold lineL
      rw [List.map_cons, List.drop_succ_cons, List.drop_zero, List.map_map]
      rfl
    rw [e]
    ac_rfl
    exact hq
  · show mApp fIntS _ [a0, some (.str (line w is)), a2, a3, a4, some (.str (num i))] _ Q' X
    ac_rfl
    have := num_len (hs i hi)
    exact intS_s (num_read (hs i hi)) (by omega) h
  · rw [List.filter_eq_self.mpr fun _ _ => rfl]
    ac_rfl
    exact h
/-- the lists read so far -/
def rd (B : Store) (a b : Nat) (L F : List D) : Store := put (put B a (.lst L)) b (.lst F)
theorem rd_a {B : Store} {a b : Nat} {L F : List D} (h : a ≠ b) : rd B a b L F a = some (.lst L) := by unfold rd; rw [put_ne h, put_same]
theorem rd_b {B : Store} {a b : Nat} {L F : List D} : rd B a b L F b = some (.lst F) := by unfold rd; rw [put_same]
theorem rd_put_a {B : Store} {a b : Nat} {L F G : List D} (h : a ≠ b) : put (rd B a b L F) a (.lst G) = rd B a b G F := by
  unfold rd
  rw [put_comm (Ne.symm h), put_put]
theorem rd_put_b {B : Store} {a b : Nat} {L F G : List D} : put (rd B a b L F) b (.lst G) = rd B a b L G := by
  unfold rd
  rw [put_put]
theorem w_law_read (Y : Yard W Cs) (hC : Cs.length ≤ 100) (h : Q (yD W Cs) S) : m_law_read [.str (txtY W Cs)] S Q X := by
  have h40 := Y.w.hi
  have hl := txt_len Y hC
  rw [lr__eq]
  refine ⟨rfl, ?_⟩
  show mSeq lr_1 _ _ [some (.str (txtY W Cs)), none, none, none, none, none] S
  unfold lr_1
  ac_rfl
  intro a ha
  ac_rfl
  intro b hb
  ac_rfl
  have hab : a ≠ b := fun e => by rw [e, put_same] at hb; cases hb
  have hbS : S b = none := by rw [put_ne (Ne.symm hab)] at hb; exact hb
  unfold lr_2
  ac_rfl
  refine str2_to ?_
  ac_rfl
  refine s2K_s ?_
  ac_rfl
  refine split_s (by rw [nl_len]; rfl) (by rw [sizeLine_eq]; omega) ?_
  rw [txt_split Y]
  ac_rfl
  refine for_inv0 (fun i ρ T => ∃ a1 a4 a5, ρ = [some (.str (txtY W Cs)), a1, some (.ref a), some (.ref b), a4, a5] ∧ T = rd S a b ((W.take i).map wD) ((Cs.take (i - W.length)).map cD))
    ⟨none, none, none, rfl, by rw [List.take_zero, Nat.zero_sub, List.take_zero]; rfl⟩ (fun _ _ _ _ => trivial) (fun i d ρ T N hd hI hN => ?_) fun ρ T hI => ?_
  · obtain ⟨a1, a4, a5, rfl, rfl⟩ := hI
    rw [List.getElem?_map] at hd
    cases hl : (linesY W Cs)[i]? with
    | none => rw [hl] at hd; cases hd
    | some z =>
      rw [hl] at hd; cases hd
      ac_rfl
      by_cases c : i < W.length
      · unfold linesY at hl
        rw [List.getElem?_append_left (by rw [List.length_map]; exact c), List.getElem?_map, List.getElem?_eq_getElem c] at hl
        cases hl
        obtain ⟨s1, s2⟩ := sm_w Y (List.getElem_mem c)
        have hs : ∀ j ∈ [W[i].1, W[i].2], j.natAbs < 10 ^ 11 := fun j hj => by
          simp only [List.mem_cons, List.not_mem_nil, or_false] at hj
          rcases hj with rfl | rfl
          · exact s1
          · exact s2
        have hl2 := line_len2 (w := "wagon") (by decide +kernel) s1 s2
        refine lb1_at (w := "wagon") (is := [W[i].1, W[i].2]) (by decide +kernel) (by omega) hs (by simp) ?_
        unfold lb_2
        ac_rfl
        refine cutS_to ?_
        ac_rfl
        refine ⟨_, rfl, by rw [sizeLine_eq]; omega, ?_⟩
        ac_rfl
        refine eq_ss ?_
        rw [show cutS (line "wagon" [W[i].1, W[i].2]) none (some 6) = "wagon " from cut_w, decide_eq_true rfl]
        ac_rfl
        refine app_var (l := a) rfl (rd_a hab) ?_
        ac_rfl
        refine ⟨_, rd_a hab, by rw [List.length_map, List.length_take]; omega, ?_⟩
        rw [rd_put_a hab]
        refine hN _ _ ⟨_, _, _, rfl, ?_⟩
        rw [show i + 1 - W.length = i - W.length by omega, List.take_add_one, List.getElem?_eq_getElem c, List.map_append]
        rfl
      · unfold linesY at hl
        rw [List.getElem?_append_right (by rw [List.length_map]; omega), List.getElem?_map, List.length_map] at hl
        cases hj : Cs[i - W.length]? with
        | none => rw [hj] at hl; cases hl
        | some c1 =>
          rw [hj] at hl
          cases hl
          obtain ⟨s1, s2, s3, s4⟩ := sm_c Y (List.mem_of_getElem? hj)
          have hs : ∀ j ∈ [c1.i, c1.j, c1.l, c1.g], j.natAbs < 10 ^ 11 := fun j hj => by
            simp only [List.mem_cons, List.not_mem_nil, or_false] at hj
            rcases hj with rfl | rfl | rfl | rfl
            · exact s1
            · exact s2
            · exact s3
            · exact s4
          have hl2 := line_len4 (w := "coupling") (by decide +kernel) s1 s2 s3 s4
          refine lb1_at (w := "coupling") (is := [c1.i, c1.j, c1.l, c1.g]) (by decide +kernel) (by omega) hs (by simp) ?_
          unfold lb_2
          ac_rfl
          refine cutS_to ?_
          ac_rfl
          refine ⟨_, rfl, by rw [sizeLine_eq]; omega, ?_⟩
          ac_rfl
          refine eq_ss ?_
          rw [decide_eq_false (show ¬ cutS (line "coupling" [c1.i, c1.j, c1.l, c1.g]) none (some 6) = "wagon " from cut_c)]
          ac_rfl
          refine app_var (l := b) rfl rd_b ?_
          ac_rfl
          refine ⟨_, rd_b, by rw [List.length_map, List.length_take]; omega, ?_⟩
          rw [rd_put_b]
          refine hN _ _ ⟨_, _, _, rfl, ?_⟩
          rw [List.take_of_length_le (l := W) (i := i + 1) (by omega), List.take_of_length_le (l := W) (i := i) (by omega), show i + 1 - W.length = (i - W.length) + 1 by omega, List.take_add_one, hj, List.map_append]
          rfl
  · obtain ⟨a1, a4, a5, rfl, rfl⟩ := hI
    rw [List.length_map, lines_num, List.take_of_length_le (by omega), List.take_of_length_le (by omega)]
    unfold lr_3
    ac_rfl
    refine tuple_r (rd_a hab) ?_
    ac_rfl
    refine tuple_r rd_b ?_
    ac_rfl
    refine cut_of (T := Mir.del (Mir.del (rd S a b (W.map wD) (Cs.map cD)) b) a) ((Sub.del _ _).trans (Sub.del _ _)) ?_
    have e : Mir.del (Mir.del (rd S a b (W.map wD) (Cs.map cD)) b) a = S := by
      unfold rd
      rw [del_put (by rw [put_ne (Ne.symm hab)]; exact hbS), del_put ha]
    rw [e]
    exact h
end
end K55
end

section
set_option Elab.async false
set_option linter.all false
set_option maxRecDepth 100000
set_option maxHeartbeats 401000
namespace K55
open PySem L2 Mir Yd
variable {S : Store} {Q : D → Store → Prop} {X : XC}
/-! ### the draws -/
abbrev kv3 (s a l : D) : List (Key × D) := [(.inr "script", s), (.inr "at", a), (.inr "left", l)]
theorem ne1 : ¬ (("script" : Str) = "at") := by decide +kernel
theorem ne2 : ¬ (("script" : Str) = "left") := by decide +kernel
theorem ne3 : ¬ (("at" : Str) = "left") := by decide +kernel
theorem ne4 : ¬ (("left" : Str) = "at") := by decide +kernel
theorem lk1 {s a l : D} : look (kv3 s a l) (.inr "script" : Key) = some s := by simp [look, kv3]
theorem lk2 {s a l : D} : look (kv3 s a l) (.inr "at" : Key) = some a := by simp [look, kv3, List.find?_cons, ne1]
theorem lk3 {s a l : D} : look (kv3 s a l) (.inr "left" : Key) = some l := by simp [look, kv3, List.find?_cons, ne2, ne3]
theorem st2 {s a l x : D} : stor (kv3 s a l) (.inr "at" : Key) x = kv3 s x l := by simp [stor, kv3, ne1, ne4]
theorem st3 {s a l x : D} : stor (kv3 s a l) (.inr "left" : Key) x = kv3 s a x := by simp [stor, kv3, ne2, ne3]
theorem small3 {s a l : D} : small (kv3 s a l).length := show 3 ≤ 100000 by decide

theorem pys_ints : ∀ ns : List Int, pys (ns.map D.int) = some (ns.map PyData.int)
  | [] => rfl
  | n :: ns => by rw [List.map_cons, pys, pys_ints ns]; rfl
theorem can_ints : ∀ ns : List Int, PyData.canLayAll0 (ns.map PyData.int) = true
  | [] => rfl
  | n :: ns => by rw [List.map_cons, PyData.canLayAll0, can_ints ns]; rfl
theorem shaped_ints (ns : List Int) : SeqAt.shaped (.list (ns.map PyData.int)) = true := by
  unfold SeqAt.shaped
  rw [PyData.canLay0, can_ints, PyData.depth]
  have h := ints_depth ns
  simp
  omega
theorem ne_nil {ns : List Int} {k : D → Prop} (h : k (.bl (!ns.isEmpty))) : fNe (.frz (ns.map D.int)) (.lst []) S k := by
  simp only [fNe, fEqB, pyS, py, pys_ints, pys, Option.map_some]
  refine ⟨shaped_ints ns, by decide, ?_⟩
  cases ns with
  | nil => exact h
  | cons n ns => exact h
theorem fmod_ok {a m : Int} (h : 0 < m) : 0 ≤ a.fmod m ∧ a.fmod m < m := ⟨Int.fmod_nonneg_of_pos _ h, Int.fmod_lt_of_pos _ h⟩
theorem cm_f {a m j : Int} (h : 0 < m) (hm : m < 4611686018427387904) : CMul (a.fmod m) j := by
  obtain ⟨h1, h2⟩ := fmod_ok (a := a) h
  exact .inl ⟨by omega, by omega⟩
theorem ix_any {ns : List Int} {a : Int} {k : D → Prop} (hl : (0 : Int) < (ns.length : Int)) (h : ∀ c, k (.int c)) : fIx (.frz (ns.map D.int)) (.int (a.fmod (ns.length : Int))) S k := by
  obtain ⟨h1, h2⟩ := fmod_ok (a := a) hl
  have hi : (a.fmod (ns.length : Int)).toNat < ns.length := by omega
  have e : atI (ns.map D.int) (a.fmod (ns.length : Int)) = some (.int ns[(a.fmod (ns.length : Int)).toNat]) := atI_int h1 (by rw [List.getElem?_map, List.getElem?_eq_getElem hi]; rfl)
  unfold fIx
  dsimp only [asQ, asL]
  rw [e]
  exact h _
theorem w_next_dk {xs : List Int} {at_ left n total : Int} {l : Nat} (h0 : 0 ≤ at_) (h1 : at_ ≤ n) (h2 : 0 ≤ left) (hn : n < 1000000000000) (ht : 0 < total) (ht2 : total < 1073741824)
    (h : ∀ (v : Int) kvs, 0 ≤ v → v < total → DrP (n + 1) kvs → Q (.int v) (put S l (.dk kvs))) : m_law_next [.ref l, .int total] (put S l (.dk (kv3 (.frz (xs.map D.int)) (.int at_) (.int left)))) Q X := by
  have hdr : ∀ (a b : Int), 0 ≤ a → a ≤ n + 1 → 0 ≤ b → DrP (n + 1) (kv3 (.frz (xs.map D.int)) (.int a) (.int b)) := fun a b p q r => ⟨xs, a, b, p, q, r, rfl⟩
  unfold m_law_next
  (try simp only [mFn, mRet, mSeq, mSet, mIte, mNext, mVar, mC, mOp, mApp, mCons, mNil, mLst, mT, mAnd, mIf, mDPut, fDGet, dkS, keyD, put_same, put_put, lk1, lk2, lk3, st2, st3, small3, ME.x, startD, List.map_cons, List.map_nil, List.replicate_zero, List.replicate_succ, List.append_nil, List.cons_append, List.nil_append, List.getElem?_cons_zero, List.getElem?_cons_succ, List.set_cons_zero, List.set_cons_succ, fGt, fMod, fDiv, fSub, fGe, fLt, fPow, fI0, fInt, fAdd, fMul, fLen, asQ, asL, Option.bind_some, true_and, and_true, if_true, if_false, Bool.false_eq_true, List.length_cons, List.length_nil])
  by_cases hl : 0 < left
  · rw [decide_eq_true hl]
    (try simp only [mFn, mRet, mSeq, mSet, mIte, mNext, mVar, mC, mOp, mApp, mCons, mNil, mLst, mT, mAnd, mIf, mDPut, fDGet, dkS, keyD, put_same, put_put, lk1, lk2, lk3, st2, st3, small3, ME.x, startD, List.map_cons, List.map_nil, List.replicate_zero, List.replicate_succ, List.append_nil, List.cons_append, List.nil_append, List.getElem?_cons_zero, List.getElem?_cons_succ, List.set_cons_zero, List.set_cons_succ, fGt, fMod, fDiv, fSub, fGe, fLt, fPow, fI0, fInt, fAdd, fMul, fLen, asQ, asL, Option.bind_some, true_and, and_true, if_true, if_false, Bool.false_eq_true, List.length_cons, List.length_nil])
    obtain ⟨e1, e2⟩ := fmod_ok (a := left) ht
    have e3 : (0 : Int) ≤ left.fdiv total := Int.fdiv_nonneg h2 (by omega)
    refine ⟨by omega, ⟨by omega, by omega⟩, show 3 ≤ 100000 by decide, ?_⟩
    exact cut_self (h _ _ e1 e2 (hdr _ _ h0 (by omega) e3))
  · rw [decide_eq_false hl]
    (try simp only [mFn, mRet, mSeq, mSet, mIte, mNext, mVar, mC, mOp, mApp, mCons, mNil, mLst, mT, mAnd, mIf, mDPut, fDGet, dkS, keyD, put_same, put_put, lk1, lk2, lk3, st2, st3, small3, ME.x, startD, List.map_cons, List.map_nil, List.replicate_zero, List.replicate_succ, List.append_nil, List.cons_append, List.nil_append, List.getElem?_cons_zero, List.getElem?_cons_succ, List.set_cons_zero, List.set_cons_succ, fGt, fMod, fDiv, fSub, fGe, fLt, fPow, fI0, fInt, fAdd, fMul, fLen, asQ, asL, Option.bind_some, true_and, and_true, if_true, if_false, Bool.false_eq_true, List.length_cons, List.length_nil])
    refine ⟨show 3 ≤ 100000 by decide, show 0 ≤ 100000 by decide, ne_nil ?_⟩
    cases xs with
    | nil =>
      simp only [List.isEmpty_nil, Bool.not_true, Bool.false_eq_true, if_false]
      refine ⟨⟨by decide, by decide, by decide⟩, ?_⟩
      rw [decide_eq_false (show ¬ ((10 : Int) ^ Int.toNat 18 ≤ 0) by decide)]
      (try simp only [mFn, mRet, mSeq, mSet, mIte, mNext, mVar, mC, mOp, mApp, mCons, mNil, mLst, mT, mAnd, mIf, mDPut, fDGet, dkS, keyD, put_same, put_put, lk1, lk2, lk3, st2, st3, small3, ME.x, startD, List.map_cons, List.map_nil, List.replicate_zero, List.replicate_succ, List.append_nil, List.cons_append, List.nil_append, List.getElem?_cons_zero, List.getElem?_cons_succ, List.set_cons_zero, List.set_cons_succ, fGt, fMod, fDiv, fSub, fGe, fLt, fPow, fI0, fInt, fAdd, fMul, fLen, asQ, asL, Option.bind_some, true_and, and_true, if_true, if_false, Bool.false_eq_true, List.length_cons, List.length_nil])
      refine ⟨by decide, cm_f (by decide) (by decide), ⟨by decide, by decide⟩, by decide, .inl ⟨by decide, by decide⟩, .inr ⟨by omega, by omega⟩, .inl ⟨by decide, by decide⟩, by decide, cm_f (by decide) (by decide), by decide, cm_f (by decide) (by decide), by decide, ⟨by decide, by decide⟩, by omega, ?_⟩
      exact cut_self (h _ _ (fmod_ok ht).1 (fmod_ok ht).2 (hdr _ _ (by omega) (by omega) h2))
    | cons x xs =>
      simp only [List.isEmpty_cons, Bool.not_false, if_true, List.map_cons]
      (try simp only [mFn, mRet, mSeq, mSet, mIte, mNext, mVar, mC, mOp, mApp, mCons, mNil, mLst, mT, mAnd, mIf, mDPut, fDGet, dkS, keyD, put_same, put_put, lk1, lk2, lk3, st2, st3, small3, ME.x, startD, List.map_cons, List.map_nil, List.replicate_zero, List.replicate_succ, List.append_nil, List.cons_append, List.nil_append, List.getElem?_cons_zero, List.getElem?_cons_succ, List.set_cons_zero, List.set_cons_succ, fGt, fMod, fDiv, fSub, fGe, fLt, fPow, fI0, fInt, fAdd, fMul, fLen, asQ, asL, Option.bind_some, true_and, and_true, if_true, if_false, Bool.false_eq_true, List.length_cons, List.length_nil])
      have hlen : (0 : Int) < (((x :: xs).length : Nat) : Int) := by rw [List.length_cons]; omega
      have el : (List.map D.int xs).length + 1 = (x :: xs).length := by rw [List.length_map]; rfl
      simp only [el]
      refine ⟨by omega, ix_any (ns := x :: xs) (a := at_) hlen fun c => ⟨⟨by decide, by decide, by decide⟩, ?_⟩⟩
      (try simp only [mFn, mRet, mSeq, mSet, mIte, mNext, mVar, mC, mOp, mApp, mCons, mNil, mLst, mT, mAnd, mIf, mDPut, fDGet, dkS, keyD, put_same, put_put, lk1, lk2, lk3, st2, st3, small3, ME.x, startD, List.map_cons, List.map_nil, List.replicate_zero, List.replicate_succ, List.append_nil, List.cons_append, List.nil_append, List.getElem?_cons_zero, List.getElem?_cons_succ, List.set_cons_zero, List.set_cons_succ, fGt, fMod, fDiv, fSub, fGe, fLt, fPow, fI0, fInt, fAdd, fMul, fLen, asQ, asL, Option.bind_some, true_and, and_true, if_true, if_false, Bool.false_eq_true, List.length_cons, List.length_nil])
      by_cases h5 : (10 : Int) ^ Int.toNat 18 ≤ c
      · rw [decide_eq_true h5]
        (try simp only [mFn, mRet, mSeq, mSet, mIte, mNext, mVar, mC, mOp, mApp, mCons, mNil, mLst, mT, mAnd, mIf, mDPut, fDGet, dkS, keyD, put_same, put_put, lk1, lk2, lk3, st2, st3, small3, ME.x, startD, List.map_cons, List.map_nil, List.replicate_zero, List.replicate_succ, List.append_nil, List.cons_append, List.nil_append, List.getElem?_cons_zero, List.getElem?_cons_succ, List.set_cons_zero, List.set_cons_succ, fGt, fMod, fDiv, fSub, fGe, fLt, fPow, fI0, fInt, fAdd, fMul, fLen, asQ, asL, Option.bind_some, true_and, and_true, if_true, if_false, Bool.false_eq_true, List.length_cons, List.length_nil])
        by_cases h6 : at_ < ((xs.length + 1 : Nat) : Int)
        · rw [decide_eq_true h6]
          (try simp only [mFn, mRet, mSeq, mSet, mIte, mNext, mVar, mC, mOp, mApp, mCons, mNil, mLst, mT, mAnd, mIf, mDPut, fDGet, dkS, keyD, put_same, put_put, lk1, lk2, lk3, st2, st3, small3, ME.x, startD, List.map_cons, List.map_nil, List.replicate_zero, List.replicate_succ, List.append_nil, List.cons_append, List.nil_append, List.getElem?_cons_zero, List.getElem?_cons_succ, List.set_cons_zero, List.set_cons_succ, fGt, fMod, fDiv, fSub, fGe, fLt, fPow, fI0, fInt, fAdd, fMul, fLen, asQ, asL, Option.bind_some, true_and, and_true, if_true, if_false, Bool.false_eq_true, List.length_cons, List.length_nil])
          have h7 : (0 : Int) ≤ c := Int.le_trans (by decide) h5
          exact ⟨⟨by omega, by omega⟩, show 3 ≤ 100000 by decide, by omega, cut_self (h _ _ (fmod_ok ht).1 (fmod_ok ht).2 (hdr _ _ (by omega) (by omega) (Int.fdiv_nonneg h7 (by omega))))⟩
        · rw [decide_eq_false h6]
          (try simp only [mFn, mRet, mSeq, mSet, mIte, mNext, mVar, mC, mOp, mApp, mCons, mNil, mLst, mT, mAnd, mIf, mDPut, fDGet, dkS, keyD, put_same, put_put, lk1, lk2, lk3, st2, st3, small3, ME.x, startD, List.map_cons, List.map_nil, List.replicate_zero, List.replicate_succ, List.append_nil, List.cons_append, List.nil_append, List.getElem?_cons_zero, List.getElem?_cons_succ, List.set_cons_zero, List.set_cons_succ, fGt, fMod, fDiv, fSub, fGe, fLt, fPow, fI0, fInt, fAdd, fMul, fLen, asQ, asL, Option.bind_some, true_and, and_true, if_true, if_false, Bool.false_eq_true, List.length_cons, List.length_nil])
          refine ⟨by decide, cm_f (by decide) (by decide), ⟨by decide, by decide⟩, by decide, .inl ⟨by decide, by decide⟩, .inr ⟨by omega, by omega⟩, .inl ⟨by decide, by decide⟩, by decide, cm_f (by decide) (by decide), by decide, cm_f (by decide) (by decide), by decide, ⟨by decide, by decide⟩, by omega, ?_⟩
          exact cut_self (h _ _ (fmod_ok ht).1 (fmod_ok ht).2 (hdr _ _ (by omega) (by omega) h2))
      · rw [decide_eq_false h5]
        (try simp only [mFn, mRet, mSeq, mSet, mIte, mNext, mVar, mC, mOp, mApp, mCons, mNil, mLst, mT, mAnd, mIf, mDPut, fDGet, dkS, keyD, put_same, put_put, lk1, lk2, lk3, st2, st3, small3, ME.x, startD, List.map_cons, List.map_nil, List.replicate_zero, List.replicate_succ, List.append_nil, List.cons_append, List.nil_append, List.getElem?_cons_zero, List.getElem?_cons_succ, List.set_cons_zero, List.set_cons_succ, fGt, fMod, fDiv, fSub, fGe, fLt, fPow, fI0, fInt, fAdd, fMul, fLen, asQ, asL, Option.bind_some, true_and, and_true, if_true, if_false, Bool.false_eq_true, List.length_cons, List.length_nil])
        refine ⟨by decide, cm_f (by decide) (by decide), ⟨by decide, by decide⟩, by decide, .inl ⟨by decide, by decide⟩, .inr ⟨by omega, by omega⟩, .inl ⟨by decide, by decide⟩, by decide, cm_f (by decide) (by decide), by decide, cm_f (by decide) (by decide), by decide, ⟨by decide, by decide⟩, by omega, ?_⟩
        exact cut_self (h _ _ (fmod_ok ht).1 (fmod_ok ht).2 (hdr _ _ (by omega) (by omega) h2))
end K55
namespace K55
open PySem L2 Mir Yd
variable {S : Store} {Q : D → Store → Prop} {X : XC}
/-- a draw -/
theorem w_next {n total : Int} {l : Nat} (hS : S l = some (.orc (DrP n))) (hn : n < 1000000000000) (ht : 0 < total) (ht2 : total < 1073741824) (h : ∀ v : Int, 0 ≤ v → v < total → Q (.int v) (put S l (.orc (DrP (n + 1))))) : (orcF m_law_next) [.ref l, .int total] S Q X := by
  refine ⟨l, DrP n, DrP (n + 1), _, rfl, hS, ?_⟩
  rintro kvs ⟨xs, at_, left, h0, h1, h2, rfl⟩
  refine w_next_dk h0 h1 h2 hn ht ht2 fun v kvs' hv hv2 hd => ⟨kvs', put_same, hd, ?_⟩
  rw [put_put]
  exact h v hv hv2
end K55
end

section
set_option Elab.async false
set_option linter.all false
set_option maxRecDepth 100000
set_option maxHeartbeats 801000
namespace K55
open PySem L2 Mir Yd
variable {S : Store} {Q : D → Store → Prop} {X : XC}
theorem ne_nil_ref {ns : List Int} {a : Nat} {k : D → Prop} (hS : S a = some (.lst (ns.map D.int))) (h : k (.bl (!ns.isEmpty))) : fNe (.ref a) (.lst []) S k := by
  simp only [fNe, fEqB, pyS, py, asL, hS, Option.bind_some, pys_ints, pys, Option.map_some]
  refine ⟨shaped_ints ns, by decide, ?_⟩
  cases ns with
  | nil => exact h
  | cons n ns => exact h
theorem erase_perm {α : Type} : ∀ {xs : List α} {i : Nat} {y : α}, xs[i]? = some y → (xs.eraseIdx i ++ [y]).Perm xs
  | [], _, _, h => by simp at h
  | x :: xs, 0, y, h => by
    simp at h
    subst h
    exact List.perm_append_comm
  | x :: xs, i + 1, y, h => (erase_perm (xs := xs) (i := i) (by simpa using h)).cons x
theorem seqIx {v : Int} {k : Nat} (h0 : 0 ≤ v) (h1 : v < k) : seqIndex? v k = some v.toNat := by
  unfold seqIndex?
  first
    | (simp; omega)
    | (rw [if_pos (by omega)]; simp; omega)
theorem map_erase {α β : Type} {f : α → β} : ∀ (xs : List α) (i : Nat), (xs.map f).eraseIdx i = (xs.eraseIdx i).map f
  | [], _ => rfl
  | _ :: _, 0 => rfl
  | x :: xs, i + 1 => by
    show f x :: (xs.map f).eraseIdx i = f x :: (xs.eraseIdx i).map f
    rw [map_erase xs i]
theorem pop_at {ns : List Int} {v x : Int} (h0 : 0 ≤ v) (h1 : v < 1000000) (hx : ns[v.toNat]? = some x) : gPopAt (ns.map D.int) [.int v] = some (.int x, (ns.eraseIdx v.toNat).map D.int) := by
  have hl := (List.getElem?_eq_some_iff.mp hx).1
  unfold gPopAt
  simp only
  rw [if_pos ⟨h0, h1⟩, seqIx h0 (by rw [List.length_map]; omega)]
  simp only
  rw [List.getElem?_map, hx, map_erase]
  rfl
theorem merge3 {s a l : D} : mergeD [] [((.inr "script" : Key), s), (.inr "at", a), (.inr "left", l)] = kv3 s a l := by
  simp [mergeD, stor, ne1, ne2, ne3, kv3]
theorem w_begun {x : D} (h : ∀ l, S l = none → Q (.ref l) (put S l (.dk (kv3 x (.int 0) (.int 0))))) : m_law_begun [x] S Q X := by
  refine ⟨rfl, ?_⟩
  show mDisp _ [some x] S _ _
  intro l hl
  refine ⟨put_same, ?_⟩
  show [_, _, _].length ≤ 15 ∧ _
  refine ⟨show 3 ≤ 15 by decide, ?_⟩
  rw [merge3, put_put]
  exact cut_self (h l hl)
section
variable {M : ME} {l n : Nat} {B : Store}
/-- the draws at l, at most n of them so far, all else as in B -/
def Dc (l n : Nat) (B S : Store) : Prop := ∃ m : Nat, m ≤ n ∧ S = put B l (.orc (DrP m))
theorem Dc.mono (h : Dc l n B S) {m : Nat} (hm : n ≤ m) : Dc l m B S := by
  obtain ⟨k, hk, e⟩ := h
  exact ⟨k, by omega, e⟩
theorem Dc.l_ (h : Dc l n B S) : ∃ o, S l = some o := by
  obtain ⟨m, hm, rfl⟩ := h
  exact ⟨_, put_same⟩
theorem Dc.put_ (h : Dc l n B S) {a : Nat} {o : O} (h1 : a ≠ l) : Dc l n (put B a o) (put S a o) := by
  obtain ⟨m, hm, rfl⟩ := h
  exact ⟨m, hm, by rw [put_comm (Ne.symm h1)]⟩
theorem Dc.at_ (h : Dc l n B S) {a : Nat} (h1 : a ≠ l) : S a = B a := by
  obtain ⟨m, hm, rfl⟩ := h
  rw [put_ne h1]
theorem Dc.del_ (h : Dc l n B S) {a : Nat} (h1 : a ≠ l) : Dc l n (Mir.del B a) (Mir.del S a) := by
  obtain ⟨m, hm, rfl⟩ := h
  refine ⟨m, hm, ?_⟩
  funext k
  by_cases hk : k = a
  · rw [hk, Mir.del_same, put_ne h1, Mir.del_same]
  · rw [Mir.del_ne hk]
    by_cases hl : k = l
    · rw [hl, put_same, put_same]
    · rw [put_ne hl, put_ne hl, Mir.del_ne hk]
theorem Dc.new (h : Dc l n B S) {a : Nat} (ha : S a = none) : a ≠ l ∧ B a = none := by
  have h1 : a ≠ l := fun e => by
    obtain ⟨o, ho⟩ := h.l_
    rw [e, ho] at ha
    cases ha
  exact ⟨h1, by rw [← h.at_ h1]; exact ha⟩
theorem w_nx {total : Int} (hd : Dc l n B S) (hn : n < 1000000) (ht : 0 < total) (ht2 : total < 1073741824) (h : ∀ (v : Int) (S' : Store), 0 ≤ v → v < total → Dc l (n + 1) B S' → Q (.int v) S') : (orcF m_law_next) [.ref l, .int total] S Q X := by
  obtain ⟨m, hm, rfl⟩ := hd
  refine w_next (n := m) put_same (by omega) ht ht2 fun v v1 v2 => h v _ v1 v2 ⟨m + 1, by omega, ?_⟩
  rw [put_put, show ((m + 1 : Nat) : Int) = (m : Int) + 1 by omega]
theorem w_of {ds : List D} (hd : Dc l n B S) (hn : n < 1000000) (h0 : 0 < ds.length) (h1 : ds.length < 1000000) (h : ∀ d ∈ ds, ∀ S', Dc l (n + 1) B S' → Q d S') : m_law_of [.ref l, .lst ds] S Q X := by
  refine ⟨rfl, rfl, w_nx hd hn (by omega) (by omega) fun v S' hv hv2 hd' => ?_⟩
  have hi : v.toNat < ds.length := by omega
  have e : atI ds v = some ds[v.toNat] := atI_int hv (List.getElem?_eq_getElem hi)
  show fIx (.lst ds) (.int v) _ _
  unfold fIx
  dsimp only [asQ, asL]
  rw [e]
  exact cut_self (h _ (List.getElem_mem hi) S' hd')
def sh_1 : MS := mPar 2 3 (mCons (mListN (mCons (mVar 1) (mNil))) (mCons (mNew (mNil)) (mNil)))
def sh_2 : MS := mWhile (mT (mOp fNe (mVar 2) (mLst (mNil)))) (mDrop (mMeth gAppend (mVar 3) (mCons (mMeth gPopAt (mVar 2) (mCons (mCall 2 (orcF m_law_next) (mCons (mVar 0) (mCons (mApp fLen (mCons (mVar 2) (mNil))) (mNil)))) (mNil))) (mNil))))
def sh_3 : MS := mRet (mFrz (mVar 3))
theorem sh__eq : m_law_shuffled = mFn 2 2 (mSeq sh_1 (mSeq sh_2 sh_3)) := rfl
def two (B : Store) (a b : Nat) (L F : List Int) : Store := put (put B a (.lst (L.map D.int))) b (.lst (F.map D.int))
theorem two_a {a b : Nat} {L L' F : List Int} (h : a ≠ b) : put (two B a b L F) a (.lst (L'.map D.int)) = two B a b L' F := by
  unfold two
  rw [put_comm (Ne.symm h), put_put]
theorem two_b {a b : Nat} {L F F' : List Int} : put (two B a b L F) b (.lst (F'.map D.int)) = two B a b L F' := by
  unfold two
  rw [put_put]
theorem w_shuffled {ds : List Int} (hm : ds.length ≤ 1000) (hn : n < 900000) (hd : Dc l n B S) (h : ∀ (ys : List Int) (S' : Store), ys.Perm ds → Dc l (n + ds.length) B S' → Q (.lst (ys.map D.int)) S') : m_law_shuffled [.ref l, .lst (ds.map D.int)] S Q X := by
  rw [sh__eq]
  refine ⟨rfl, ?_⟩
  show mSeq sh_1 _ _ [some (.ref l), some (.lst (ds.map D.int)), none, none] S
  unfold sh_1 sh_2 sh_3
  ac_rfl
  refine listN_at rfl rfl fun a ha => ?_
  ac_rfl
  intro b hb
  ac_rfl
  obtain ⟨a1, a3⟩ := hd.new ha
  have hd1 := hd.put_ (a := a) (o := .lst (ds.map D.int)) a1
  obtain ⟨b1, b3⟩ := hd1.new hb
  have hab : a ≠ b := fun e => by rw [e, put_same] at b3; cases b3
  have b4 : B b = none := by rw [put_ne (Ne.symm hab)] at b3; exact b3
  have hd2 := hd1.put_ (a := b) (o := .lst []) b1
  refine while_inv (fun k ρ T => ∃ L F : List Int, L.length = k ∧ (F ++ L).Perm ds ∧ ρ = [some (.ref l), some (.lst (ds.map D.int)), some (.ref a), some (.ref b)] ∧ Dc l (n + F.length) (two B a b L F) T) (fun k ρ T N hI hN => ?_) (n := ds.length) ⟨ds, [], rfl, List.Perm.refl _, rfl, hd2⟩
  obtain ⟨L, F, rfl, hp, rfl, hd⟩ := hI
  have hlen : F.length + L.length = ds.length := by
    have := hp.length_eq
    rw [List.length_append] at this
    exact this
  have Ta : T a = some (.lst (L.map D.int)) := by rw [hd.at_ a1, two, put_ne hab, put_same]
  have Tb : T b = some (.lst (F.map D.int)) := by rw [hd.at_ b1, two, put_same]
  ac_rfl
  refine ne_nil_ref Ta ?_
  cases L with
  | nil =>
    simp only [List.isEmpty_nil]
    ac_rfl
    refine frz_at ?_
    ac_rfl
    refine fzK_r Tb ?_
    rw [List.append_nil] at hp
    have z := ((hd.del_ b1).del_ a1).mono (m := n + ds.length) (by omega)
    have e : Mir.del (Mir.del (two B a b [] F) b) a = B := by
      unfold two
      rw [del_put (by rw [put_ne (Ne.symm hab)]; exact b4), del_put a3]
    rw [e] at z
    exact cut_of (T := Mir.del (Mir.del T b) a) (Sub.del _ _) (h F _ hp z)
  | cons x L =>
    simp only [List.isEmpty_cons]
    ac_rfl
    refine app_var (l := b) rfl Tb ?_
    refine meth_var (l := a) rfl Ta ?_
    ac_rfl
    refine len_r Ta ?_
    ac_rfl
    refine w_nx hd (by omega) (by rw [List.length_map, List.length_cons]; omega) (by rw [List.length_map]; omega) fun v T2 f1 f2 hd2 => ?_
    rw [List.length_map] at f2
    have Ta2 : T2 a = some (.lst ((x :: L).map D.int)) := by rw [hd2.at_ a1, two, put_ne hab, put_same]
    have hw : v.toNat < (x :: L).length := by omega
    have hget : (x :: L)[v.toNat]? = some (x :: L)[v.toNat] := List.getElem?_eq_getElem hw
    have hper := erase_perm hget
    generalize (x :: L)[v.toNat] = y at hget hper
    ac_rfl
    refine mtK_at Ta2 (pop_at f1 (by omega) hget) (by rw [List.length_map, List.length_eraseIdx]; split <;> omega) ?_
    have hd3 := hd2.put_ (a := a) (o := .lst (((x :: L).eraseIdx v.toNat).map D.int)) a1
    rw [two_a hab] at hd3
    have Tb3 : put T2 a (.lst (((x :: L).eraseIdx v.toNat).map D.int)) b = some (.lst (F.map D.int)) := by rw [hd3.at_ b1, two, put_same]
    refine ⟨_, Tb3, by rw [List.length_map]; omega, ?_⟩
    have hd4 := hd3.put_ (a := b) (o := .lst ((F ++ [y]).map D.int)) b1
    rw [two_b] at hd4
    refine hN ((x :: L).eraseIdx v.toNat).length _ _ (by rw [List.length_eraseIdx, if_pos hw]; simp) ⟨_, F ++ [y], rfl, ?_, rfl, by rw [List.map_append] at hd4; rw [List.length_append, List.length_singleton]; exact hd4⟩
    refine List.Perm.trans ?_ hp
    rw [List.append_assoc]
    refine List.Perm.append_left F ?_
    refine List.Perm.trans ?_ hper
    exact List.perm_append_comm
end
end K55
end

section
set_option Elab.async false
set_option linter.all false
set_option maxRecDepth 100000
set_option maxHeartbeats 801000
namespace K55
open PySem L2 Mir Yd
variable {S : Store} {Q : D → Store → Prop} {X : XC}
/-! ### a yard, drawn -/
def ly_1 : MS := mSet 3 (mOp fAdd (mC (.int 1)) (mCall 2 (orcF m_law_next) (mCons (mVar 0) (mCons (mVar 1) (mNil)))))
def ly_2 : MS := mSet 4 (mOp fIx (mLst (mCons (mC (.int 0)) (mCons (mC (.int 0)) (mCons (mOp fSub (mOp fPow (mC (.int 10)) (mC (.int 9))) (mOp fMul (mC (.int 4)) (mVar 2))) (mCons (mOp fSub (mOp fMul (mC (.int 4)) (mVar 2)) (mOp fPow (mC (.int 10)) (mC (.int 9)))) (mNil)))))) (mCall 2 (orcF m_law_next) (mCons (mVar 0) (mCons (mC (.int 4)) (mNil)))))
def ly_3 : MS := mSet 5 (mLc (mRg1 (mCons (mVar 3) (mNil))) (.nm 10) [10] (mYes) (mOp fSub (mOp fAdd (mVar 4) (mCall 2 (orcF m_law_next) (mCons (mVar 0) (mCons (mOp fAdd (mOp fMul (mC (.int 2)) (mVar 2)) (mC (.int 1))) (mNil))))) (mVar 2)))
def ly_4 : MS := mSet 6 (mApp fTuple (mCons (mLc (mWk (mVar 5)) (.nm 12) [12] (mYes) (mTup (mCons (mOp fSub (mVar 12) (mCall 2 (orcF m_law_next) (mCons (mVar 0) (mCons (mOp fAdd (mVar 2) (mC (.int 1))) (mNil))))) (mCons (mOp fAdd (mVar 12) (mCall 2 (orcF m_law_next) (mCons (mVar 0) (mCons (mOp fAdd (mVar 2) (mC (.int 1))) (mNil))))) (mNil))))) (mNil)))
def ly_5 : MS := mPar 8 9 (mCons (mCall 2 m_law_shuffled (mCons (mVar 0) (mCons (mListRg (mVar 3)) (mNil)))) (mCons (mNew (mNil)) (mNil)))
def ly_6 : MS := mFor (mRg2 (mCons (mC (.int 1)) (mCons (mVar 3) (mNil)))) (gN 7) (mIte (mT (mOp fGt (mCall 2 (orcF m_law_next) (mCons (mVar 0) (mCons (mC (.int 5)) (mNil)))) (mC (.int 0)))) (mSeq (mAsg (mApp fSorted (mCons (mLst (mCons (mOp fIx (mVar 8) (mVar 7)) (mCons (mOp fIx (mVar 8) (mCall 2 m_law_of (mCons (mVar 0) (mCons (mLst (mCons (mOp fSub (mVar 7) (mC (.int 1))) (mCons (mC (.int 0)) (mCons (mCall 2 (orcF m_law_next) (mCons (mVar 0) (mCons (mVar 7) (mNil)))) (mNil))))) (mNil))))) (mNil)))) (mNil))) (gQ 2 (gCo (gN 13) (gCo (gN 14) (gNi))))) (mSeq (mPar 15 11 (mCons (mCall 2 (orcF m_law_next) (mCons (mVar 0) (mCons (mC (.int 3)) (mNil)))) (mCons (mCall 2 (orcF m_law_next) (mCons (mVar 0) (mCons (mC (.int 4)) (mNil)))) (mNil)))) (mSeq (mSet 11 (mOp fAdd (mVar 11) (mApp fInt1 (mCons (mOp fEq (mOp fAdd (mVar 15) (mVar 11)) (mC (.int 0))) (mNil))))) (mDrop (mMeth gAppend (mVar 9) (mCons (mTup (mCons (mVar 13) (mCons (mVar 14) (mCons (mOp fSub (mOp fSub (mOp fIx (mVar 5) (mVar 14)) (mOp fIx (mVar 5) (mVar 13))) (mVar 15)) (mCons (mOp fAdd (mOp fSub (mOp fIx (mVar 5) (mVar 14)) (mOp fIx (mVar 5) (mVar 13))) (mVar 11)) (mNil)))))) (mNil))))))) (mNext))
def ly_7 : MS := mRet (mTup (mCons (mTup (mCons (mVar 6) (mCons (mApp fTuple (mCons (mApp fSorted (mCons (mVar 9) (mNil))) (mNil))) (mNil)))) (mCons (mApp fTuple (mCons (mVar 5) (mNil))) (mNil))))
theorem ly__eq : m_law_yard = mFn 3 13 (mSeq ly_1 (mSeq ly_2 (mSeq ly_3 (mSeq ly_4 (mSeq ly_5 (mSeq ly_6 ly_7)))))) := rfl
theorem ix_mem {ds : List D} {v : Int} {k : D → Prop} (h1 : 0 ≤ v) (h2 : v < (ds.length : Int)) (h : ∀ d ∈ ds, k d) : fIx (.lst ds) (.int v) S k := by
  have hi : v.toNat < ds.length := by omega
  exact ix_l (atI_int h1 (List.getElem?_eq_getElem hi)) (h _ (List.getElem_mem hi))
section
variable {M : ME} {l n : Nat} {B : Store}
theorem ly1_at {most : Nat} {b2 b3 : Option D} {ρr : List (Option D)} (hd : Dc l n B S) (hn : n < 900000) (h1 : 1 ≤ most) (h2 : most ≤ 40)
    (h : ∀ (m : Nat) (S' : Store), 1 ≤ m → m ≤ most → Dc l (n + 1) B S' → M.nx (some (.ref l) :: some (.int most) :: b2 :: some (.int m) :: ρr) S') :
    ly_1 M (some (.ref l) :: some (.int most) :: b2 :: b3 :: ρr) S := by
  unfold ly_1
  ac_rfl
  refine w_nx hd (by omega) (by omega) (by omega) fun v S1 v1 v2 hd1 => ?_
  ac_rfl
  have e : ((1 + v).toNat : Int) = 1 + v := Int.toNat_of_nonneg (by omega)
  have := h (1 + v).toNat S1 (by omega) (by omega) hd1
  rw [e] at this
  exact this
/-- the widths that are drawn -/
def Wide (w : Int) : Prop := w = 3 ∨ w = 900
theorem ly2_at {w : Int} {b1 b3 b4 : Option D} {ρr : List (Option D)} (hd : Dc l n B S) (hn : n < 900000) (hw : Wide w)
    (h : ∀ (b : Int) (S' : Store), 4 * w - 1000000000 ≤ b → b ≤ 1000000000 - 4 * w → Dc l (n + 1) B S' → M.nx (some (.ref l) :: b1 :: some (.int w) :: b3 :: some (.int b) :: ρr) S') :
    ly_2 M (some (.ref l) :: b1 :: some (.int w) :: b3 :: b4 :: ρr) S := by
  have hw' : 3 ≤ w ∧ w ≤ 900 := by rcases hw with rfl | rfl <;> decide
  have e9 : (10 : Int) ^ Int.toNat 9 = 1000000000 := by decide
  unfold ly_2
  ac_rfl
  refine mul_l (by decide) (by decide) ?_
  ac_rfl
  refine mul_l (by decide) (by decide) ?_
  ac_rfl
  refine w_nx hd (by omega) (by omega) (by omega) fun v S1 v1 v2 hd1 => ?_
  rw [e9]
  refine ix_mem v1 (by simpa using v2) fun d hm => ?_
  simp only [List.mem_cons,
      List.not_mem_nil, or_false] at hm
  rcases hm with rfl
      | rfl | rfl | rfl
  all_goals
    ac_rfl
    exact h _ S1 (by omega) (by omega) hd1
theorem ly3_at {m : Nat} {w base : Int} {b1 b5 b6 b7 b8 b9 b10 b11 b12 b13 b14 b15 : Option D} (hd : Dc l n B S) (hn : n < 800000) (hm : m ≤ 40) (hw : Wide w)
    (h : ∀ (row : List Int) (S' : Store), row.length = m → (∀ y ∈ row, base - w ≤ y ∧ y ≤ base + w) → Dc l (n + m) B S' → M.nx [some (.ref l), b1, some (.int w), some (.int m), some (.int base), some (.lst (row.map D.int)), b6, b7, b8, b9, b10, b11, b12, b13, b14, b15] S') :
    ly_3 M [some (.ref l), b1, some (.int w), some (.int m), some (.int base), b5, b6, b7, b8, b9, b10, b11, b12, b13, b14, b15] S := by
  have hw' : 3 ≤ w ∧ w ≤ 900 := by rcases hw with rfl | rfl <;> decide
  unfold ly_3
  ac_rfl
  refine lc_inv ((List.range m).map fun (i : Nat) => D.int i) (fun _ => True) (fun a acc S' => a ≠ l ∧ B a = none ∧ ∃ ys : List Int, acc = ys.map D.int ∧ ys.length ≤ m ∧ (∀ y ∈ ys, base - w ≤ y ∧ y ≤ base + w) ∧ Dc l (n + ys.length) (put B a (.lst acc)) S') (fun Q' hq => ?_) (by unfold small; rw [List.length_map, List.length_range]; omega) (fun _ _ _ _ => trivial) ?_ ?_ ?_ ?_
  · refine rg1_to ?_
    ac_rfl
    exact rgK_n (by omega) hq
  · rintro a acc S' ⟨n1, n3, ys, rfl, hyl, hy, hd⟩
    rw [hd.at_ n1, put_same]
  · intro a ha
    obtain ⟨n1, n3⟩ := hd.new ha
    exact ⟨n1, n3, [], rfl, Nat.zero_le _, nofun, hd.put_ n1⟩
  · rintro a ha i d hdd acc S' Q' X' hlen ⟨n1, n3, ys, rfl, hyl, hy, hd⟩ hq
    obtain ⟨hi, rfl⟩ := rng_get hdd
    rw [List.length_map] at hlen
    show mOp fSub _ _ [some (.ref l), b1, some (.int w), some (.int m), some (.int base), b5, b6, b7, b8, b9, some (.int i), b11, b12, b13, b14, b15] S' Q' X'
    ac_rfl
    refine mul_l (by decide) (by decide) ?_
    ac_rfl
    refine w_nx hd (by omega) (by omega) (by omega) fun v S1 v1 v2 hd1 => ?_
    ac_rfl
    have hd3 := hd1.put_ (a := a) (o := .lst ((ys ++ [base + v - w]).map D.int)) n1
    rw [put_put] at hd3
    refine hq _ _ (by rw [hd1.at_ n1, put_same]) ⟨n1, n3, ys ++ [base + v - w], by rw [List.map_append]; rfl, by rw [List.length_append, List.length_singleton]; omega, fun y hy' => ?_, ?_⟩
    · rcases List.mem_append.mp hy' with hy' | hy'
      · exact hy y hy'
      · cases List.mem_singleton.mp hy'
        omega
    · rw [List.map_append] at hd3
      rw [List.length_append,
          List.length_singleton]
      exact hd3
  · rintro a acc S' ha hlen ⟨n1, n3, ys, rfl, hyl, hy, hd⟩
    rw [List.length_map, List.length_map, List.length_range] at hlen
    have hd2 := hd.del_ n1
    rw [del_put n3] at hd2
    exact h ys _ hlen hy (hd2.mono (by omega))
structure WalN (row : List Int) (k : Nat) (ws : List (Int × Int)) : Prop where
  len : ws.length = k
  ok : ∀ (j : Nat) (w : Int × Int) (v : Int), ws[j]? = some w → row[j]? = some v → w.1 ≤ v ∧ v ≤ w.2 ∧ -1000000000 ≤ w.1 ∧ w.2 ≤ 1000000000
theorem ly4_at {row : List Int} {w : Int} {b1 b3 b4 b6 b7 b8 b9 b10 b11 b12 b13 b14 b15 : Option D} (hd : Dc l n B S) (hn : n < 800000) (hm : row.length ≤ 40) (hw : Wide w) (hrow : ∀ y ∈ row, 3 * w - 1000000000 ≤ y ∧ y ≤ 1000000000 - 3 * w)
    (h : ∀ (ws : List (Int × Int)) (S' : Store), WalN row row.length ws → Dc l (n + 80) B S' → M.nx [some (.ref l), b1, some (.int w), b3, b4, some (.lst (row.map D.int)), some (.tup (ws.map wD)), b7, b8, b9, b10, b11, b12, b13, b14, b15] S') :
    ly_4 M [some (.ref l), b1, some (.int w), b3, b4, some (.lst (row.map D.int)), b6, b7, b8, b9, b10, b11, b12, b13, b14, b15] S := by
  have hw' : 3 ≤ w ∧ w ≤ 900 := by rcases hw with rfl | rfl <;> decide
  unfold ly_4
  ac_rfl
  refine lc_inv (row.map D.int) (fun _ => True) (fun a acc S' => a ≠ l ∧ B a = none ∧ ∃ ws : List (Int × Int), acc = ws.map wD ∧ WalN row ws.length ws ∧ ws.length ≤ row.length ∧ Dc l (n + 2 * ws.length) (put B a (.lst acc)) S') (fun Q' hq => ?_) (by unfold small; rw [List.length_map]; omega) (fun _ _ _ _ => trivial) ?_ ?_ ?_ ?_
  · ac_rfl
    exact hq
  · rintro a acc S' ⟨n1, n3, ws, rfl, hyl, hy, hd⟩
    rw [hd.at_ n1, put_same]
  · intro a ha
    obtain ⟨n1, n3⟩ := hd.new ha
    exact ⟨n1, n3, [], rfl, ⟨rfl, fun j w v h => by simp at h⟩, Nat.zero_le _, hd.put_ n1⟩
  · rintro a ha i d hdd acc S' Q' X' hlen ⟨n1, n3, ws, rfl, hW, hy, hd⟩ hq
    rw [List.getElem?_map] at hdd
    cases hv : row[i]? with
    | none => rw [hv] at hdd; cases hdd
    | some v =>
      rw [hv] at hdd
      cases hdd
      rw [List.length_map] at hlen
      have hil := (List.getElem?_eq_some_iff.mp hv).1
      obtain ⟨v1, v2⟩ := hrow v (List.mem_of_getElem? hv)
      show mTup _ [some (.ref l), b1, some (.int w), b3, b4, some (.lst (row.map D.int)), b6, b7, b8, b9, b10, b11, some (.int v), b13, b14, b15] S' Q' X'
      ac_rfl
      refine w_nx hd (by omega) (by omega) (by omega) fun p S1 p1 p2 hd1 => ?_
      ac_rfl
      refine w_nx hd1 (by omega) (by omega) (by omega) fun q S2 q1 q2 hd2 => ?_
      ac_rfl
      have hd3 := hd2.put_ (a := a) (o := .lst ((ws ++ [(v - p, v + q)]).map wD)) n1
      rw [put_put] at hd3
      refine hq _ _ (by rw [hd2.at_ n1, put_same]) ⟨n1, n3, ws ++ [(v - p, v + q)], by rw [List.map_append]; rfl, ⟨rfl, fun j z v' hz hv' => ?_⟩, by rw [List.length_append, List.length_singleton]; omega, ?_⟩
      · rcases Nat.lt_or_ge j ws.length with hj | hj
        · rw [List.getElem?_append_left hj] at hz
          exact hW.ok j z v' hz hv'
        · rw [List.getElem?_append_right hj] at hz
          have ej : j = i := by
            cases e : j - ws.length with
            | zero => omega
            | succ k => rw [e] at hz; simp at hz
          subst ej
          rw [hlen, Nat.sub_self] at hz
          rw [hv] at hv'
          cases hv'
          cases hz
          dsimp only
          omega
      · rw [List.map_append] at hd3
        rw [List.length_append,
            List.length_singleton]
        exact hd3
  · rintro a acc S' ha hlen ⟨n1, n3, ws, rfl, hW, hy, hd⟩
    rw [List.length_map, List.length_map] at hlen
    have hd2 := hd.del_ n1
    rw [del_put n3] at hd2
    ac_rfl
    rw [hlen] at hW
    exact h ws _ hW (hd2.mono (by omega))
theorem ly5_at {m : Nat} {b1 b2 b4 b5 b6 b7 b8 b9 b10 b11 b12 b13 b14 b15 : Option D} (hm : m ≤ 40) (hn : n < 800000) (hd : Dc l n B S)
    (h : ∀ (line : List Int) (r : Nat) (S' : Store), line.Perm ((List.range m).map fun (i : Nat) => (i : Int)) → r ≠ l → B r = none → Dc l (n + 40) (put B r (.lst [])) S' → M.nx [some (.ref l), b1, b2, some (.int m), b4, b5, b6, b7, some (.lst (line.map D.int)), some (.ref r), b10, b11, b12, b13, b14, b15] S') :
    ly_5 M [some (.ref l), b1, b2, some (.int m), b4, b5, b6, b7, b8, b9, b10, b11, b12, b13, b14, b15] S := by
  unfold ly_5
  ac_rfl
  show (-1000000 ≤ (m : Int) ∧ (m : Int) ≤ 1000000) ∧ _
  refine ⟨by omega, ?_⟩
  have e0 : rgD 0 ((m : Int) - 0).toNat = ((List.range m).map fun (i : Nat) => (i : Int)).map D.int := by
    unfold rgD
    rw [show ((m : Int) - 0).toNat = m by omega, List.map_map]
    refine List.map_congr_left fun i _ =>
        ?_
    show D.int (0 + (i : Int)) = D.int i
    rw [Int.zero_add]
  rw [e0]
  ac_rfl
  refine w_shuffled (by rw [List.length_map, List.length_range]; omega) (by omega) hd fun line S1 hp hd1 => ?_
  rw [List.length_map, List.length_range] at hd1
  ac_rfl
  intro r hr
  obtain ⟨r1, r3⟩ := hd1.new hr
  ac_rfl
  exact h line r _ hp r1 r3 ((hd1.put_ r1).mono (by omega))
theorem ly6_at {many r : Nat} {row line : List Int} {rk : Nat → Nat} {base w : Int} {a1 a2 a4 a6 b7 b10 b11 b12 b13 b14 b15 : Option D} (r1 : r ≠ l) (hn : n < 800000) (hm1 : 1 ≤ many) (hm : many ≤ 40) (hw : Wide w)
    (hrow : row.length = many) (hb : ∀ x ∈ row, base - w ≤ x ∧ x ≤ base + w) (hp : line.Perm ((List.range many).map fun (i : Nat) => (i : Int))) (hrk : ∀ (k j : Nat), line[k]? = some (j : Int) → rk j = k) (hd : Dc l n (put B r (.lst [])) S)
    (h : ∀ (Cs : List C) b7 b11 b13 b14 b15 S', Lot row rk many Cs → Cs.length ≤ 100 → Dc l (n + 200) (put B r (.lst (Cs.map cD))) S' → M.nx [some (.ref l), a1, a2, some (.int many), a4, some (.lst (row.map D.int)), a6, b7, some (.lst (line.map D.int)), some (.ref r), b10, b11, b12, b13, b14, b15] S') :
    ly_6 M [some (.ref l), a1, a2, some (.int many), a4, some (.lst (row.map D.int)), a6, b7, some (.lst (line.map D.int)), some (.ref r), b10, b11, b12, b13, b14, b15] S := by
  have hw' : 3 ≤ w ∧ w ≤ 900 := by rcases hw with rfl | rfl <;> decide
  have hll : line.length = many := by rw [hp.length_eq, List.length_map, List.length_range]
  unfold ly_6 mFor mRg2
  simp only [mCons, mNil, mVar, mC, List.getElem?_cons_zero, List.getElem?_cons_succ]
  refine ⟨⟨by omega, by omega, by omega, by omega⟩, ?_⟩
  refine for_inv0 (fun i ρ T => ∃ (Cs : List C) (b7 b11 b13 b14 b15 : Option D), ρ = [some (.ref l), a1, a2, some (.int many), a4, some (.lst (row.map D.int)), a6, b7, some (.lst (line.map D.int)), some (.ref r), b10, b11, b12, b13, b14, b15] ∧ Lot row rk (1 + i) Cs ∧ Cs.length ≤ i ∧ Dc l (n + 5 * i) (put B r (.lst (Cs.map cD))) T)
    ⟨[], b7, b11, b13, b14, b15, rfl, ⟨fun c hc => absurd hc List.not_mem_nil, fun c hc => absurd hc List.not_mem_nil, List.nodup_nil, fun c hc => absurd hc List.not_mem_nil, fun c hc => absurd hc List.not_mem_nil⟩, Nat.le_refl _, hd⟩ (fun _ _ _ _ => trivial) (fun i d ρ T N hdd hI hN => ?_) fun ρ T hI => ?_
  · obtain ⟨Cs, b7, b11, b13, b14, b15, rfl, L, hcl, hd⟩ := hI
    have hi : i + 1 < many := by
      have z := (List.getElem?_eq_some_iff.mp hdd).1
      unfold rgD at z
      rw [List.length_map, List.length_range] at z
      omega
    have ed : d = .int ((1 + i : Nat) : Int) := by
      unfold rgD at hdd
      rw [List.getElem?_map, List.getElem?_range (by omega)] at hdd
      cases hdd
      rw [show ((1 + i : Nat) : Int) = 1 + (i : Int) by omega]
    subst ed
    have hq : (1 + i : Nat) < line.length := by omega
    have ea : line[1 + i]? = some line[1 + i] := List.getElem?_eq_getElem hq
    obtain ⟨ja, hja, eja⟩ : ∃ j : Nat, j < many ∧ line[1 + i] = (j : Int) := by
      have z := hp.mem_iff.mp (List.getElem_mem hq)
      obtain ⟨j, hj, e⟩ := List.mem_map.mp z
      exact ⟨j, List.mem_range.mp hj, e.symm⟩
    rw [eja] at ea
    have rka := hrk _ _ ea
    have q1 : atI (line.map D.int) ((1 + i : Nat) : Int) = some (.int ja) := Mir.atI_nat (by rw [List.getElem?_map, ea]; rfl)
    ac_rfl
    refine w_nx hd (by omega) (by omega) (by omega) fun u S1 _ _ hd1 => ?_
    ac_rfl
    by_cases hu : 0 < u
    · rw [decide_eq_true hu]
      ac_rfl
      refine ix_l q1 ?_
      ac_rfl
      refine w_nx hd1 (by omega) (by omega) (by omega) fun v S2 v1 v2 hd2 => ?_
      ac_rfl
      refine w_of hd2 (by omega) (by simp) (by simp) fun d hdm S3 hd3 => ?_
      obtain ⟨t, ht1, ht2, rfl⟩ : ∃ t : Int, 0 ≤ t ∧ t < ((1 + i : Nat) : Int) ∧ d = .int t := by
        simp only [List.mem_cons, List.not_mem_nil, or_false] at hdm
        rcases hdm with rfl | rfl | rfl
        · exact ⟨_, by omega, by omega, rfl⟩
        · exact ⟨_, by omega, by omega, rfl⟩
        · exact ⟨_, v1, v2, rfl⟩
      have hv : t.toNat < line.length := by omega
      have eb : line[t.toNat]? = some line[t.toNat] := List.getElem?_eq_getElem hv
      obtain ⟨jb, hjb, ejb⟩ : ∃ j : Nat, j < many ∧ line[t.toNat] = (j : Int) := by
        have z := hp.mem_iff.mp (List.getElem_mem hv)
        obtain ⟨j, hj, e⟩ := List.mem_map.mp z
        exact ⟨j, List.mem_range.mp hj, e.symm⟩
      rw [ejb] at eb
      have rkb := hrk _ _ eb
      have q2 : atI (line.map D.int) t = some (.int jb) := atI_int ht1 (by rw [List.getElem?_map, eb]; rfl)
      ac_rfl
      refine ix_l q2 ?_
      ac_rfl
      have hab : ja ≠ jb := fun e => by
        rw [e, rkb] at rka
        omega
      refine k_sorted2 ?_
      ac_rfl
      obtain ⟨p, ep⟩ : ∃ p : Nat, min (ja : Int) (jb : Int) = (p : Int) := ⟨min ja jb, by omega⟩
      obtain ⟨q, eq⟩ : ∃ q : Nat, max (ja : Int) (jb : Int) = (q : Int) := ⟨max ja jb, by omega⟩
      rw [ep, eq]
      have hpq : p < q ∧ q < many ∧ ((p = ja ∧ q = jb) ∨ (p = jb ∧ q = ja)) := by omega
      obtain ⟨g1, g2, g3⟩ := hpq
      have e1 : row[p]? = some (row[p]'(by omega)) := List.getElem?_eq_getElem (by omega)
      have e2 : row[q]? = some (row[q]'(by omega)) := List.getElem?_eq_getElem (by omega)
      generalize row[p]'(by omega) = a at e1
      generalize row[q]'(by omega) = b at e2
      obtain ⟨b1, b2'⟩ := hb a (List.mem_of_getElem? e1)
      obtain ⟨b3', b4⟩ := hb b (List.mem_of_getElem? e2)
      refine w_nx hd3 (by omega) (by omega) (by omega) fun x S4 x1 x2 hd4 => ?_
      ac_rfl
      refine w_nx hd4 (by omega) (by omega) (by omega) fun y S5 y1 y2 hd5 => ?_
      ac_rfl
      have Tr : S5 r = some (.lst (Cs.map cD)) := by rw [hd5.at_ r1, put_same]
      refine app_var (l := r) rfl Tr ?_
      ac_rfl
      have z2 : atI (row.map D.int) (q : Int) = some (D.int b) := Mir.atI_nat (i := q) (d := D.int b) (by rw [List.getElem?_map, e2]; rfl)
      have z1 : atI (row.map D.int) (p : Int) = some (D.int a) := Mir.atI_nat (i := p) (d := D.int a) (by rw [List.getElem?_map, e1]; rfl)
      refine ix_l z2 ?_
      ac_rfl
      refine ix_l z1 ?_
      ac_rfl
      refine ix_l z2 ?_
      ac_rfl
      refine ix_l z1 ?_
      ac_rfl
      refine ⟨_, Tr, by rw [List.length_map]; omega, ?_⟩
      obtain ⟨z, ez, y3, y4, y5⟩ : ∃ z : Int, (y + if decide (x + y = 0) = true then 1 else 0) = z ∧ 0 ≤ z ∧ z ≤ 4 ∧ -x < z := by
        refine ⟨_, rfl, ?_, ?_, ?_⟩ <;> (by_cases e : x + y = 0 <;> simp [e] <;> omega)
      rw [ez]
      have ti : ((p : Int)).toNat = p := by omega
      have tj : ((q : Int)).toNat = q := by omega
      have r3 : rk p ≠ rk q := by rcases g3 with ⟨rfl, rfl⟩ | ⟨rfl, rfl⟩ <;> omega
      have hd6 := hd5.put_ (a := r) (o := .lst ((Cs ++ [(⟨p, q, b - a - x, b - a + z⟩ : C)]).map cD)) r1
      rw [put_put] at hd6
      refine hN _ _ ⟨Cs ++ [⟨p, q, b - a - x, b - a + z⟩], _, _, _, _, _, rfl, L.more ⟨show (0 : Int) ≤ (p : Int) by omega, show (p : Int) < (q : Int) by omega, show (q : Int) < (row.length : Int) by omega, show (-10000000000 : Int) ≤ b - a - x by omega, show b - a - x < b - a + z by omega, show b - a + z ≤ 10000000000 by omega⟩ ?_ ?_ ?_, by rw [List.length_append, List.length_singleton]; omega, ?_⟩
      · show rk ((p : Int)).toNat ≠ rk ((q : Int)).toNat
        rw [ti, tj]
        exact r3
      · show rk (if rk ((p : Int)).toNat < rk ((q : Int)).toNat then ((q : Int)).toNat else ((p : Int)).toNat) = 1 + i
        rw [ti, tj]
        rcases g3 with ⟨rfl, rfl⟩ | ⟨rfl, rfl⟩
        · rw [if_neg (by omega)]
          exact rka
        · rw [if_pos (by omega)]
          exact rka
      · intro a' b' ha hb'
        have ha : row[((p : Int)).toNat]? = some a' := ha
        have hb' : row[((q : Int)).toNat]? = some b' := hb'
        rw [ti, e1] at ha
        rw [tj, e2] at hb'
        cases ha
        cases hb'
        show b - a - x ≤ b - a ∧ b - a ≤ b - a + z
        omega
      · rw [List.map_append] at hd6 ⊢
        exact hd6.mono (by omega)
    · rw [decide_eq_false hu]
      ac_rfl
      exact hN _ _ ⟨Cs, _, _, _, _, _, rfl, L.wait (by omega), by omega, hd1.mono (by omega)⟩
  · obtain ⟨Cs, b7, b11, b13, b14, b15, rfl, L, hcl, hd⟩ := hI
    have e : (rgD 1 ((many : Int) - 1).toNat).length = many - 1 := by
      unfold rgD
      rw [List.length_map,
          List.length_range]
      omega
    rw [e] at L hcl hd
    exact h Cs _ _ _ _ _ T (L.wait (by omega)) (by omega) (hd.mono (by omega))
theorem w_law_yard {most : Nat} {w : Int} (hd : Dc l n B S) (hn : n < 700000) (h1 : 1 ≤ most) (h2 : most ≤ 40) (hw : Wide w) (h : ∀ W Cs x S', Yard W Cs → Cs.length ≤ 100 → Dc l (n + 400) B S' → Q (.tup [yD W Cs, rD x]) S') : m_law_yard [.ref l, .int most, .int w] S Q X := by
  have hw' : 3 ≤ w ∧ w ≤ 900 := by rcases hw with rfl | rfl <;> decide
  rw [ly__eq]
  refine ⟨rfl, ?_⟩
  show mSeq ly_1 _ _ [some (.ref l), some (.int most), some (.int w), none, none, none, none, none, none, none, none, none, none, none, none, none] S
  refine seq_at (ly1_at hd (by omega) h1 h2 fun m S1 m1 m2 hd1 => ?_)
  refine seq_at (a := ly_2) (ly2_at hd1 (by omega) hw fun base S2 b1 b2 hd2 => ?_)
  refine seq_at (a := ly_3) (ly3_at hd2 (by omega) (by omega) hw fun row S3 hlen hrow hd3 => ?_)
  refine seq_at (a := ly_4) (ly4_at hd3 (by omega) (by omega) hw (fun y hy => by have := hrow y hy; omega) fun ws S4 hW hd4 => ?_)
  refine seq_at (a := ly_5) (ly5_at (by omega) (by omega) hd4 fun line r S5 hp r1 r3 hd5 => ?_)
  have hnd : line.Nodup := hp.nodup_iff.mpr (List.pairwise_map.mpr (List.nodup_range.imp fun h e => h (by omega)))
  obtain ⟨rk, hrk⟩ := ranks hnd
  refine seq_at (a := ly_6) (ly6_at r1 (by omega) m1 (by omega) hw hlen hrow hp hrk hd5 fun Cs c7 c11 c13 c14 c15 S6 L hC hd6 => ?_)
  have Tr : S6 r = some (.lst (Cs.map cD)) := by rw [hd6.at_ r1, put_same]
  unfold ly_7
  ac_rfl
  refine k_sorted (asL_r Tr) ?_
  ac_rfl
  have hwl : ws.length = row.length := hW.len
  have V : VW ws := by
    refine ⟨by omega, by omega, fun p hp' => ?_⟩
    obtain ⟨j, hj, ej⟩ := List.mem_iff_getElem.mp hp'
    have a1 : ws[j]? = some p := by rw [List.getElem?_eq_getElem hj, ej]
    have a2 : row[j]? = some (row[j]'(by omega)) := List.getElem?_eq_getElem _
    have := hW.ok j p _ a1 a2
    omega
  have Y : Yard ws (sortC Cs) := yard_sorted V (fun c hc => by rw [hwl]; exact L.cr c hc) L.ne L.nd
  have z := hd6.del_ r1
  rw [del_put r3] at z
  refine cut_of (T := Mir.del S6 r) (Sub.del _ _) (h ws (sortC Cs) row _ Y ?_ (z.mono (by omega)))
  rw [(sortC_perm Cs).length_eq]
  exact hC
end
end K55
end

section
set_option Elab.async false
set_option linter.all false
set_option maxRecDepth 100000
set_option maxHeartbeats 801000
namespace K55
open PySem L2 Mir Yd Tx
variable {S : Store} {Q : D → Store → Prop} {X : XC}
section
variable {M : ME} {W : List (Int × Int)} {Cs : List C}
/-! ### yards compared -/
def rwD (L : List (List Int)) : List D := L.map fun r => .tup (r.map D.int)
def rwP (L : List (List Int)) : List PyData := L.map fun r => .tuple (r.map PyData.int)
theorem py_rw : ∀ L : List (List Int), pys (rwD L) = some (rwP L)
  | [] => rfl
  | r :: L => by
    show pys (D.tup (r.map D.int) :: rwD L) = _
    rw [pys, py_rw L, py, pys_ints]
    rfl
theorem can_rw : ∀ L : List (List Int), PyData.canLayAll0 (rwP L) = true
  | [] => rfl
  | r :: L => by
    show PyData.canLayAll0 (PyData.tuple (r.map PyData.int) :: rwP L) = true
    rw [PyData.canLayAll0, can_rw L, PyData.canLay0, can_ints]
    rfl
theorem plain_is : ∀ x : List Int, PyData.plainAll (x.map PyData.int) = true
  | [] => rfl
  | a :: x => by
    rw [List.map_cons, PyData.plainAll, plain_is x]
    rfl
theorem plain_rw : ∀ L : List (List Int), PyData.plainAll (rwP L) = true
  | [] => rfl
  | r :: L => by
    show PyData.plainAll (PyData.tuple (r.map PyData.int) :: rwP L) = true
    rw [PyData.plainAll, plain_rw L, PyData.plain, plain_is]
    rfl
theorem depth_rw : ∀ L : List (List Int), PyData.depthAll (rwP L) ≤ 3
  | [] => by simp [rwP, PyData.depthAll]
  | r :: L => by
    show PyData.depthAll (PyData.tuple (r.map PyData.int) :: rwP L) ≤ 3
    have h := depth_rw L
    have h2 := ints_depth r
    rw [PyData.depthAll, PyData.depth]
    omega
def yP (W : List (Int × Int)) (Cs : List C) : PyData := .tuple [.tuple (rwP (W.map fun p => [p.1, p.2])), .tuple (rwP (Cs.map fun c => [c.i, c.j, c.l, c.g]))]
theorem yD_rw : yD W Cs = .tup [.tup (rwD (W.map fun p => [p.1, p.2])), .tup (rwD (Cs.map fun c => [c.i, c.j, c.l, c.g]))] := by
  unfold yD rwD
  rw [List.map_map,
      List.map_map]
  rfl
theorem py_yD : py (yD W Cs) = some (yP W Cs) := by
  rw [yD_rw]
  simp [py, pys, py_rw, yP]
theorem shaped_yP : SeqAt.shaped (yP W Cs) = true := by
  have h1 := depth_rw (W.map fun p => [p.1, p.2])
  have h2 := depth_rw (Cs.map fun c => [c.i, c.j, c.l, c.g])
  unfold SeqAt.shaped yP
  simp [PyData.canLay0, PyData.canLayAll0, can_rw, PyData.depth, PyData.depthAll]
  omega
theorem plain_yP : (yP W Cs).plain = true := by
  unfold yP
  simp [PyData.plain, PyData.plainAll, plain_rw]
theorem ne_yD {k : D → Prop} (h : k (.bl false)) : fNe (yD W Cs) (yD W Cs) S k := by
  refine ne_tt (p := yP W Cs) (q := yP W Cs) py_yD py_yD shaped_yP shaped_yP ?_
  rw [SeqAt.eqv_refl_plain _ plain_yP]
  exact h
theorem eq_yD {k : D → Prop} (h : k (.bl true)) : fEq (yD W Cs) (yD W Cs) S k := by
  refine eq_tt (p := yP W Cs) (q := yP W Cs) py_yD py_yD shaped_yP shaped_yP ?_
  rw [SeqAt.eqv_refl_plain _ plain_yP]
  exact h
/-! ### the widest yard -/
def big (c : C) : C := ⟨c.i, c.j, 0 - 10000000000, 10000000000⟩
def vast (_ : Int × Int) : Int × Int := (0 - 1000000000, 1000000000)
theorem okC_big {n : Int} : ∀ {Cs : List C} {ls bef : List Int}, okC n ls bef Cs → okC n ls bef (Cs.map big)
  | [], _, _, _ => trivial
  | c :: r, ls, bef, h => by
    obtain ⟨R, h1, a, b, h2, h3, h4, h5⟩ := h
    exact ⟨⟨R.i0, R.ij, R.jn, show (-10000000000 : Int) ≤ 0 - 10000000000 by omega, show (0 : Int) - 10000000000 < 10000000000 by omega, show (10000000000 : Int) ≤ 10000000000 by omega⟩, h1, a, b, h2, h3, h4, okC_big h5⟩
theorem vast_yard (Y : Yard W Cs) : Yard (W.map vast) (Cs.map big) := by
  refine ⟨⟨by rw [List.length_map]; exact Y.w.lo, by rw [List.length_map]; exact Y.w.hi, fun p hp => ?_⟩, ?_⟩
  · obtain ⟨q, _, rfl⟩ := List.mem_map.mp hp
    unfold vast
    dsimp only
    omega
  · rw [List.length_map]
    exact okC_big Y.c
end
end K55
end

section
set_option Elab.async false
set_option linter.all false
set_option maxRecDepth 100000
set_option maxHeartbeats 801000
namespace K55
open PySem L2 Mir Yd Tx
variable {S : Store} {Q : D → Store → Prop} {X : XC}
def tu_1 : MS := mSet 3 (mOp fIx (mCall 3 m_law_yard (mCons (mVar 1) (mCons (mOp fIx (mLst (mCons (mC (.int 1)) (mCons (mC (.int 4)) (mCons (mC (.int 40)) (mNil))))) (mCall 2 (orcF m_law_next) (mCons (mVar 1) (mCons (mC (.int 3)) (mNil))))) (mCons (mOp fIx (mLst (mCons (mC (.int 3)) (mCons (mC (.int 900)) (mNil)))) (mCall 2 (orcF m_law_next) (mCons (mVar 1) (mCons (mC (.int 2)) (mNil))))) (mNil))))) (mC (.int 0)))
def wi_1 : MS := mSet 5 (mApp fTuple (mCons (mLc (mWk (mOp fIx (mVar 3) (mC (.int 0)))) (.nm 7) [7] (mYes) (mTup (mCons (mOp fSub (mC (.int 0)) (mOp fPow (mC (.int 10)) (mC (.int 9)))) (mCons (mOp fPow (mC (.int 10)) (mC (.int 9))) (mNil))))) (mNil)))
def wi_2 : MS := mSet 6 (mLc (mWk (mOp fIx (mVar 3) (mC (.int 1)))) (.tp [.nm 8, .nm 9, .nm 10, .nm 11]) [8, 9, 10, 11] (mYes) (mTup (mCons (mVar 8) (mCons (mVar 9) (mCons (mOp fSub (mC (.int 0)) (mOp fPow (mC (.int 10)) (mC (.int 10)))) (mCons (mOp fPow (mC (.int 10)) (mC (.int 10))) (mNil)))))))
def wi_3 : MS := mSet 3 (mTup (mCons (mVar 5) (mCons (mApp fTuple (mCons (mVar 6) (mNil))) (mNil))))
def wid : MS := mSeq wi_1 (mSeq wi_2 wi_3)
def tu_2 : MS := mIte (mT (mOp fEq (mCall 2 (orcF m_law_next) (mCons (mVar 1) (mCons (mC (.int 3)) (mNil)))) (mC (.int 0)))) wid (mNext)
def tu_3 : MS := mSet 4 (mCall 1 (mKw [0] myard_text) (mCons (mVar 3) (mNil)))
def tu_4 : MS := mIte (mOr (mT (mOp fNe (mVar 4) (mCall 1 m_law_text (mCons (mVar 3) (mNil))))) (mOr (mT (mOp fNe (mCall 1 (mKw [0] mparse_yard) (mCons (mVar 4) (mNil))) (mVar 3))) (mOr (mT (mOp fNe (mCall 1 m_law_read (mCons (mVar 4) (mNil))) (mVar 3))) (mNot (mT (mCall 1 mis_yard (mCons (mVar 3) (mNil)))))))) (mRet (mC (.bl false))) (mNext)
def turnS : MS := mSeq tu_1 (mSeq tu_2 (mSeq tu_3 tu_4))
def la_1 : MS := mSet 1 (mToOrc (DrP 0) (mCall 1 m_law_begun (mCons (mVar 0) (mNil))))
def la_2 : MS := mFor (mRg1 (mCons (mOp fAdd (mC (.int 3)) (mApp (fTwo (fun i j => if j < i then j else i)) (mCons (mC (.int 8)) (mCons (mApp fLen (mCons (mVar 0) (mNil))) (mNil))))) (mNil))) (gN 2) turnS
def la_3 : MS := mRet (mOp fEq (mCall 1 mparse_yard (mCons (mC (.str "wagon 0 0")) (mNil))) (mTup (mCons (mTup (mCons (mTup (mCons (mC (.int 0)) (mCons (mC (.int 0)) (mNil)))) (mNil))) (mCons (mTup (mNil)) (mNil)))))
theorem la__eq : mlaw = mFn 1 11 (mSeq la_1 (mSeq la_2 la_3)) := rfl
section
variable {M : ME} {W : List (Int × Int)} {Cs : List C} {l n : Nat} {B : Store}
theorem tu1_at {b0 b2 b3 b4 b5 b6 b7 b8 b9 b10 b11 : Option D} (hd : Dc l n B S) (hn : n < 600000)
    (h : ∀ W Cs S', Yard W Cs → Cs.length ≤ 100 → Dc l (n + 402) B S' → M.nx [b0, some (.ref l), b2, some (yD W Cs), b4, b5, b6, b7, b8, b9, b10, b11] S') :
    tu_1 M [b0, some (.ref l), b2, b3, b4, b5, b6, b7, b8, b9, b10, b11] S := by
  unfold tu_1
  ac_rfl
  refine w_nx hd (by omega) (by omega) (by omega) fun u S1 u1 u2 hd1 => ?_
  refine ix_mem u1 (by simpa using u2) fun d hm => ?_
  simp only [List.mem_cons,
      List.not_mem_nil, or_false] at hm
  obtain ⟨most, m1, m2, rfl⟩ : ∃ most : Nat, 1 ≤ most ∧ most ≤ 40 ∧ d = .int most := by
    rcases hm with rfl | rfl | rfl
    · exact ⟨1, by omega, by omega, rfl⟩
    · exact ⟨4, by omega, by omega, rfl⟩
    · exact ⟨40, by omega, by omega, rfl⟩
  ac_rfl
  refine w_nx hd1 (by omega) (by omega) (by omega) fun v S2 v1 v2 hd2 => ?_
  refine ix_mem v1 (by simpa using v2) fun d hm => ?_
  simp only [List.mem_cons,
      List.not_mem_nil, or_false] at hm
  obtain ⟨w, hw, rfl⟩ : ∃ w : Int, Wide w ∧ d = .int w := by
    rcases hm with rfl | rfl
    · exact ⟨3, .inl rfl, rfl⟩
    · exact ⟨900, .inr rfl, rfl⟩
  ac_rfl
  refine w_law_yard hd2 (by omega) m1 m2 hw fun W Cs x S3 Y hC hd3 => ?_
  ac_rfl
  exact h W Cs S3 Y hC (hd3.mono (by omega))
theorem wid_at {b0 b1 b2 b4 b5 b6 b7 b8 b9 b10 b11 : Option D} (Y : Yard W Cs) (hC : Cs.length ≤ 100)
    (h : ∀ b5 b6 b7 b8 b9 b10 b11, M.nx [b0, b1, b2, some (yD (W.map vast) (Cs.map big)), b4, b5, b6, b7, b8, b9, b10, b11] S) :
    wid M [b0, b1, b2, some (yD W Cs), b4, b5, b6, b7, b8, b9, b10, b11] S := by
  have h40 := Y.w.hi
  have e9 : (10 : Int) ^ Int.toNat 9 = 1000000000 := by decide
  have e10 : (10 : Int) ^ Int.toNat 10 = 10000000000 := by decide
  unfold wid wi_1
  ac_rfl
  refine lc_m W wD (fun _ => True) (fun _ => true) (fun p => wD (vast p)) (fun Q' hq => ?_) (by omega) (fun _ _ _ => trivial) (fun r nr p hp acc Q' X h => h) (fun r nr p hp _ acc Q' X h => ?_) ?_
  · ac_rfl
    refine ix_t (xs := [.tup (W.map wD), .tup (Cs.map cD)]) atI_0 ?_
    ac_rfl
    exact hq
  · show mTup _ [b0, b1, b2, some (yD W Cs), b4, b5, b6, some (wD p), b8, b9, b10, b11] _ Q' X
    ac_rfl
    rw [e9]
    exact h
  rw [List.filter_eq_self.mpr fun _ _ => rfl]
  ac_rfl
  unfold wi_2
  ac_rfl
  refine lc_m Cs cD (fun _ => True) (fun _ => true) (fun c => cD (big c)) (fun Q' hq => ?_) (by omega) (fun _ _ _ => trivial) (fun r nr p hp acc Q' X h => h) (fun r nr c hp _ acc Q' X h => ?_) ?_
  · ac_rfl
    refine ix_t (xs := [.tup (W.map wD), .tup (Cs.map cD)]) atI_1 ?_
    ac_rfl
    exact hq
  · show mTup _ [b0, b1, b2, some (yD W Cs), b4, some (.tup (W.map fun p => wD (vast p))), b6, b7, some (.int c.i), some (.int c.j), some (.int c.l), some (.int c.g)] _ Q' X
    ac_rfl
    rw [e10]
    exact h
  rw [List.filter_eq_self.mpr fun _ _ => rfl]
  ac_rfl
  unfold wi_3
  ac_rfl
  have e : D.tup [.tup (W.map fun p => wD (vast p)), .tup (Cs.map fun c => cD (big c))] = yD (W.map vast) (Cs.map big) := by
    unfold yD
    rw [List.map_map,
        List.map_map]
    rfl
  rw [e]
  exact h _ _ _ _ _ _ _
theorem tu2_at {b0 b2 b4 b5 b6 b7 b8 b9 b10 b11 : Option D} (Y : Yard W Cs) (hC : Cs.length ≤ 100) (hd : Dc l n B S) (hn : n < 700000)
    (h : ∀ W Cs b5 b6 b7 b8 b9 b10 b11 S', Yard W Cs → Cs.length ≤ 100 → Dc l (n + 1) B S' → M.nx [b0, some (.ref l), b2, some (yD W Cs), b4, b5, b6, b7, b8, b9, b10, b11] S') :
    tu_2 M [b0, some (.ref l), b2, some (yD W Cs), b4, b5, b6, b7, b8, b9, b10, b11] S := by
  unfold tu_2
  ac_rfl
  refine w_nx hd (by omega) (by omega) (by omega) fun v S2 v1 v2 hd2 => ?_
  ac_rfl
  by_cases c : v = 0
  · rw [decide_eq_true c]
    ac_rfl
    exact wid_at Y hC fun _ _ _ _ _ _ _ => h _ _ _ _ _ _ _ _ _ _ (vast_yard Y) (by rw [List.length_map]; exact hC) hd2
  · rw [decide_eq_false c]
    ac_rfl
    exact h _ _ _ _ _ _ _ _ _ _ Y hC hd2
theorem tu34_at {b0 b1 b2 b4 b5 b6 b7 b8 b9 b10 b11 : Option D} (Y : Yard W Cs) (hC : Cs.length ≤ 100)
    (h : ∀ b4, M.nx [b0, b1, b2, some (yD W Cs), b4, b5, b6, b7, b8, b9, b10, b11] S) :
    mSeq tu_3 tu_4 M [b0, b1, b2, some (yD W Cs), b4, b5, b6, b7, b8, b9, b10, b11] S := by
  unfold tu_3
  ac_rfl
  refine w_yard_text Y hC ?_
  ac_rfl
  unfold tu_4
  ac_rfl
  refine w_law_text Y hC ?_
  ac_rfl
  refine ne_ss ?_
  rw [decide_eq_true rfl]
  ac_rfl
  refine w_parse Y hC ?_
  ac_rfl
  refine ne_yD ?_
  ac_rfl
  refine w_law_read Y hC ?_
  ac_rfl
  refine ne_yD ?_
  ac_rfl
  refine w_is_yard Y ?_
  ac_rfl
  exact h _
theorem turn_at {b0 b2 b3 b4 b5 b6 b7 b8 b9 b10 b11 : Option D} (hd : Dc l n B S) (hn : n < 600000)
    (h : ∀ b3 b4 b5 b6 b7 b8 b9 b10 b11 S', Dc l (n + 403) B S' → M.nx [b0, some (.ref l), b2, b3, b4, b5, b6, b7, b8, b9, b10, b11] S') :
    turnS M [b0, some (.ref l), b2, b3, b4, b5, b6, b7, b8, b9, b10, b11] S := by
  unfold turnS
  refine seq_at (a := tu_1) (tu1_at hd hn fun W Cs S1 Y hC hd1 => ?_)
  refine seq_at (a := tu_2) (tu2_at Y hC hd1 (by omega) fun W Cs b5 b6 b7 b8 b9 b10 b11 S2 Y hC hd2 => ?_)
  exact tu34_at Y hC fun b4 => h _ _ _ _ _ _ _ _ _ S2 hd2
theorem law_is : LawIs mlaw := by
  intro ns hns
  rw [la__eq]
  refine ⟨rfl, ?_⟩
  show mSeq la_1 _ _ [some (.frz (ns.map D.int)), none, none, none, none, none, none, none, none, none, none, none] _
  unfold la_1
  ac_rfl
  unfold mToOrc
  ac_rfl
  refine w_begun fun l hl => ?_
  simp only [put_same]
  refine ⟨⟨ns, 0, 0, by decide, by decide, by decide, rfl⟩, ?_⟩
  rw [put_put]
  ac_rfl
  unfold la_2
  ac_rfl
  refine rg1_to ?_
  ac_rfl
  rw [List.length_map]
  obtain ⟨k, hk, hk2⟩ : ∃ k : Nat, 3 + (if ((ns.length : Nat) : Int) < 8 then ((ns.length : Nat) : Int) else 8) = (k : Int) ∧ k ≤ 11 := ⟨3 + min ns.length 8, by split <;> omega, by omega⟩
  rw [hk]
  refine rgK_n (n := k) (by omega) ?_
  refine for_inv0 (fun i ρ T => ∃ s2 s3 s4 s5 s6 s7 s8 s9 s10 s11, ρ = [some (.frz (ns.map D.int)), some (.ref l), s2, s3, s4, s5, s6, s7, s8, s9, s10, s11] ∧ Dc l (403 * i) (fun _ => none) T) ⟨_, _, _, _, _, _, _, _, _, _, rfl, ⟨0, by omega, rfl⟩⟩ (fun _ _ _ _ => trivial) (fun i d ρ T N hdd hI hN => ?_) fun ρ T hI => ?_
  · obtain ⟨s2, s3, s4, s5, s6, s7, s8, s9, s10, s11, rfl, hd⟩ := hI
    obtain ⟨hi, rfl⟩ := rng_get hdd
    ac_rfl
    refine turn_at hd (by omega) fun a3 a4 a5 a6 a7 a8 a9 a10 a11 S' hd' => ?_
    exact hN _ _ ⟨_, _, _, _, _, _, _, _, _, _, rfl, hd'.mono (by omega)⟩
  · obtain ⟨s2, s3, s4, s5, s6, s7, s8, s9, s10, s11, rfl, hd⟩ := hI
    unfold la_3
    ac_rfl
    have Y0 : Yard [((0 : Int), (0 : Int))] [] := ⟨⟨by decide, by decide, fun p hp => by cases List.mem_singleton.mp hp; decide⟩, trivial⟩
    have et : ("wagon 0 0" : Str) = txtY [((0 : Int), (0 : Int))] [] := by decide +kernel
    rw [et]
    refine w_parse Y0 (by decide) ?_
    ac_rfl
    refine eq_yD (W := [((0 : Int), (0 : Int))]) (Cs := []) ?_
    ac_rfl
    exact cut_self (Q := fun (d : D) (_ : Store) => d = .bl true) rfl
end
end K55
end
open PyProof.Rows PySem.W PySem
set_option maxRecDepth 100001 in
set_option maxHeartbeats 0 in
theorem PySem.Challenge.cw_coupledyard_k55_whole_texts_of_yards_holds : PySem.Challenge.rw_coupledyard_k55_whole_texts_of_yards.Holds := by
  w_on; o_law
  k_head; (case hw => w_witness2)
  k_fill
  refine K55.walk (l := PySem.Challenge.rw_coupledyard_k55_whole_texts_of_yards) K55.law_is rfl rfl (fun w h Y => PySem.W.kIn_of Y) ?F
  case F =>
    intro w mg fa h KX G hmg
    refine' K55.all_mk KX G hmg ?a0 ?l0 ?c0 ?k0 ?a1 ?l1 ?c1 ?k1 ?a2 ?l2 ?c2 ?k2 ?a3 ?l3 ?c3 ?k3 ?a4 ?l4 ?c4 ?k4 ?a5 ?l5 ?c5 ?k5 ?a6 ?l6 ?c6 ?k6 ?a7 ?l7 ?c7 ?k7 ?a8 ?l8 ?c8 ?k8 ?a9 ?l9 ?c9 ?k9 ?a10 ?l10 ?c10 ?k10 ?a11 ?l11 ?c11 ?k11 ?a12 ?l12 ?c12 ?k12 ?a13 ?l13 ?c13 ?k13 ?a14 ?l14 ?c14 ?k14 ?a15 ?l15 ?c15 ?k15 ?a16 ?l16 ?c16 ?k16 ?a17 ?l17 ?c17 ?k17 ?a18 ?l18 ?c18 ?k18 ?a19 ?l19 ?c19 ?k19 ?a20 ?l20 ?c20 ?k20 ?a21 ?l21 ?c21 ?k21 ?n_bool ?n_enumerate ?n_int ?n_isinstance ?n_len ?n_list ?n_min ?n_range ?n_sorted ?n_str ?n_tuple ?g_MOST_WAGONS ?g_MOST_PLACE ?g_MOST_DIFFERENCE ?g_MOST_SIGNS
    (case a0 => k_is)
    (case l0 => k_is)
    (case c0 => k_is)
    (case k0 => k_is)
    (case a1 => k_is)
    (case l1 => k_is)
    (case c1 => k_is)
    (case k1 => k_is)
    (case a2 => k_is)
    (case l2 => k_is)
    (case c2 => k_is)
    (case k2 => k_is)
    (case a3 => k_is)
    (case l3 => k_is)
    (case c3 => k_is)
    (case k3 => k_is)
    (case a4 => k_is)
    (case l4 => k_is)
    (case c4 => k_is)
    (case k4 => k_is)
    (case a5 => k_is)
    (case l5 => k_is)
    (case c5 => k_is)
    (case k5 => k_is)
    (case a6 => k_is)
    (case l6 => k_is)
    (case c6 => k_is)
    (case k6 => k_is)
    (case a7 => k_is)
    (case l7 => k_is)
    (case c7 => k_is)
    (case k7 => k_is)
    (case a8 => k_is)
    (case l8 => k_is)
    (case c8 => k_is)
    (case k8 => k_is)
    (case a9 => k_is)
    (case l9 => k_is)
    (case c9 => k_is)
    (case k9 => k_is)
    (case a10 => k_is)
    (case l10 => k_is)
    (case c10 => k_is)
    (case k10 => k_is)
    (case a11 => k_is)
    (case l11 => k_is)
    (case c11 => k_is)
    (case k11 => k_is)
    (case a12 => k_is)
    (case l12 => k_is)
    (case c12 => k_is)
    (case k12 => k_is)
    (case a13 => k_is)
    (case l13 => k_is)
    (case c13 => k_is)
    (case k13 => k_is)
    (case a14 => k_is)
    (case l14 => k_is)
    (case c14 => k_is)
    (case k14 => k_is)
    (case a15 => k_is)
    (case l15 => k_is)
    (case c15 => k_is)
    (case k15 => k_is)
    (case a16 => k_is)
    (case l16 => k_is)
    (case c16 => k_is)
    (case k16 => k_is)
    (case a17 => k_is)
    (case l17 => k_is)
    (case c17 => k_is)
    (case k17 => k_is)
    (case a18 => k_is)
    (case l18 => k_is)
    (case c18 => k_is)
    (case k18 => k_is)
    (case a19 => k_is)
    (case l19 => k_is)
    (case c19 => k_is)
    (case k19 => k_is)
    (case a20 => k_is)
    (case l20 => k_is)
    (case c20 => k_is)
    (case k20 => k_is)
    (case a21 => k_is)
    (case l21 => k_is)
    (case c21 => k_is)
    (case k21 => k_is)
    (case n_bool => k_is)
    (case n_enumerate => k_is)
    (case n_int => k_is)
    (case n_isinstance => k_is)
    (case n_len => k_is)
    (case n_list => k_is)
    (case n_min => k_is)
    (case n_range => k_is)
    (case n_sorted => k_is)
    (case n_str => k_is)
    (case n_tuple => k_is)
    (case g_MOST_WAGONS => k_is)
    (case g_MOST_PLACE => k_is)
    (case g_MOST_DIFFERENCE => k_is)
    (case g_MOST_SIGNS => k_is)
