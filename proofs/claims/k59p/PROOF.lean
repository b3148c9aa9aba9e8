import PyProof.Rows.All
import Wide.All
import OpenK.AllK
import Wide.FinOn
import HandS.ForMost
import HandS.Conv
import HandS.Codes
import HandS.Exc
import HandS.ExcOwn
import HandS.CallSlots
import HandS.TryMany
import HandS.More
import HandS.Wide
import HandS.Lambda
import HandS.WideBits
import HandS.Gcd
import HandS.Deep
import HandS.RaiseMore
import HandS.List
import HandS.Defaults
import HandS.Iter
import HandS.ExcInit
import HandS.ExcField
import HandS.Comp
import KE.KExcInit
import PyProof.ExcBaseAll.IndexError
import PyProof.ExcBaseAll.ArithmeticError
import PyProof.ExcBaseAll.LookupError
import PyProof.ExcBaseAll.OverflowError
import PyProof.ExcBaseAll.RuntimeError
import HandS.IsInst
import HandS.EndTab
import HandS.FStr
import HandS.Text
import PyProof.ListStr
import KE.GoesMore
import HandS.TupAny
import HandS.DictComp
import HandS.Small
import HandS.Strs
import KE.KDictList
import PyProof.Rows.DictMethods
import HandS.Sort
import HandS.Zip
import KE.KSetDisp
import HandS.Set
import HandS.TupMul
import HandS.Style
import HandS.Property
import HandS.MakeKwOnly
import OpenK.KMeth
import OpenK.KOps
import KE.KCallOwn
import HandS.NoneIn
import HandS.ReplaceLit
import HandS.HeadHook4
import PyProof.InstStoreFacts
import HandS.Head0
import HandS.Head1
import HandS.Head2
import HandS.Head3
import HandS.HeadEnd
import HandS.HeadHook1
import HandS.HeadHook2
import KE.BitLaws
import PyProof.Rows.StrMeet
import PySem.Challenge.RW_sumstead_k59_whole_disks_behind_losses_o
set_option Elab.async false
set_option linter.all false
set_option maxRecDepth 100000
set_option maxHeartbeats 1000000
namespace Sm
open PySem PySem.Spec PyProof.Rows L2
inductive PV where
  | non | bl (b : Bool) | int (i : Int) | str (x : Str) | ty (n : String)
  | tup (l : List PV) | lst (l : List PV) | hd (n : Nat) | dh (n : Nat) | oh (n : Nat) | adr (a : Addr)
  /-- a caught exception at a, its dict at d, its one field -/
  | exc (a d : Addr) (f : Str) (v : PV)
/-- a list that may be read: tracked or frozen and no handle, or written -/
def LsR (K : PySem.W.Frag) (m : List Addr) (H : Hp) (a : Addr) (xs : List V) : Prop :=
  (Rd H a (.lst xs) ∧ a ∉ m) ∨
    ∃ (o : Obj) (its : Array Value) (n : Nat), K.lookup a = some o ∧ o.cls = .type "list" ∧ o.dict = none ∧ o.data = .seq its n ∧ its.size ≤ sizeLine ∧ Vals xs its.toList
/-- what a handle may be: 1 a list, 2 a dict, 3 an instance -/
def kOf : HO → Nat
  | .lst _ => 1
  | .dK _ => 2
  | .dT _ => 2
  | .ins _ _ _ => 3
  | .frz _ u => match u with
    | .dK _ => 2
    | .dT _ => 2
    | _ => 0
  | _ => 0
theorem kOf1 {o : HO} (h : kOf o = 1) : ∃ xs, o = .lst xs := by
  cases o with
  | lst xs => exact ⟨xs, rfl⟩
  | frz b u => cases u <;> cases h
  | _ => cases h
theorem kOf2 {o : HO} (h : kOf o = 2) : (∃ k, o = .dK k) ∨ (∃ k, o = .dT k) ∨ (∃ b k, o = .frz b (.dK k)) ∨ ∃ b k, o = .frz b (.dT k) := by
  cases o with
  | dK xs => exact .inl ⟨xs, rfl⟩
  | dT xs => exact .inr (.inl ⟨xs, rfl⟩)
  | frz b u =>
    cases u with
    | dK k => exact .inr (.inr (.inl ⟨_, _, rfl⟩))
    | dT k => exact .inr (.inr (.inr ⟨_, _, rfl⟩))
    | _ => cases h
  | _ => cases h
def Kd (H : Hp) (a : Addr) (n : Nat) : Prop := ∃ o, H a = some o ∧ kOf o = n
mutual
inductive RV (K : PySem.W.Frag) (m : List Addr) (H : Hp) : V → PV → Prop
  | non : RV K m H .non .non
  | bl (b : Bool) : RV K m H (.bl b) (.bl b)
  | int (i : Int) : RV K m H (.int i) (.int i)
  | str (x : Str) : RV K m H (.str x) (.str x)
  | ty (n : String) : RV K m H (.ty n) (.ty n)
  | tup {a : Addr} {xs : List V} {l : List PV} : SqT K H a xs → RVs K m H xs l → RV K m H (.ref a) (.tup l)
  | lst {a : Addr} {xs : List V} {l : List PV} : LsR K m H a xs → RVs K m H xs l → RV K m H (.ref a) (.lst l)
  | hd {a : Addr} {n : Nat} : m[n]? = some a → Kd H a 1 → RV K m H (.ref a) (.hd n)
  | dh {a : Addr} {n : Nat} : m[n]? = some a → Kd H a 2 → RV K m H (.ref a) (.dh n)
  | oh {a : Addr} {n : Nat} : m[n]? = some a → Kd H a 3 → RV K m H (.ref a) (.oh n)
  | adr (a : Addr) : RV K m H (.ref a) (.adr a)
  | exc {a d : Addr} {f : Str} {x : V} {v : PV} : H d = some (.xd [(f, x)]) → RV K m H x v → RV K m H (.ref a) (.exc a d f v)
inductive RVs (K : PySem.W.Frag) (m : List Addr) (H : Hp) : List V → List PV → Prop
  | nil : RVs K m H [] []
  | cons {v : V} {vs : List V} {d : PV} {ds : List PV} : RV K m H v d → RVs K m H vs ds → RVs K m H (v :: vs) (d :: ds)
end
inductive Ob where
  | lst (l : List PV)
  | dct (l : List (Key × PV))
  /-- a dict whose keys are tuples of keys -/
  | dtt (l : List (List Key × PV))
  /-- an instance of the class at C, its attributes -/
  | ins (C : Addr) (fs : List (Str × PV))
  /-- a dict that is walked: read, not written -/
  | dck (o : Obj) (kvs : List (Key × V)) (l : List (Key × PV))
  | dtk (o : Obj) (kvs : List (List Key × V)) (l : List (List Key × PV))
abbrev Store := List Ob
def ObR (K : PySem.W.Frag) (m : List Addr) (H : Hp) (a : Addr) : Ob → Prop
  | .lst l => ∃ xs, H a = some (.lst xs) ∧ RVs K m H xs l
  | .dct l => ∃ kvs : List (Key × V), H a = some (.dK kvs) ∧ kvs.map (·.1) = l.map (·.1) ∧ RVs K m H (kvs.map (·.2)) (l.map (·.2))
  | .dtt l => ∃ kvs : List (List Key × V), H a = some (.dT kvs) ∧ kvs.map (·.1) = l.map (·.1) ∧ RVs K m H (kvs.map (·.2)) (l.map (·.2))
  | .ins C fs => ∃ (dx : Addr) (kvs : List (Str × V)), H a = some (.ins C dx kvs) ∧ kvs.map (·.1) = fs.map (·.1) ∧ RVs K m H (kvs.map (·.2)) (fs.map (·.2))
  | .dck o kvs l => H a = some (.frz o (.dK kvs)) ∧ kvs.map (·.1) = l.map (·.1) ∧ RVs K m H (kvs.map (·.2)) (l.map (·.2))
  | .dtk o kvs l => H a = some (.frz o (.dT kvs)) ∧ kvs.map (·.1) = l.map (·.1) ∧ RVs K m H (kvs.map (·.2)) (l.map (·.2))
structure Rel (K : PySem.W.Frag) (T : List (Addr × Str)) (m : List Addr) (st : Store) (H : Hp) : Prop where
  len : m.length = st.length
  nd : m.Nodup
  ob : ∀ (n : Nat) (a : Addr) (o : Ob), m[n]? = some a → st[n]? = some o → ObR K m H a o
  tab : LamX.Tabs T H
/-- no table of codes -/
def NT (o : HO) : Prop := ∀ ps, o ≠ .tbl ps
structure Grow (m : List Addr) (H : Hp) (m' : List Addr) (H' : Hp) : Prop where
  pre : ∃ e, m' = m ++ e ∧ ∀ a ∈ e, ∀ o, H a = some o → ¬ NT o
  keep : ∀ a o, H a = some o → a ∉ m → NT o → H' a = some o
  there : ∀ a o, H a = some o → NT o → ∃ o', H' a = some o' ∧ NT o'
  kd : ∀ a n, Kd H a (n + 1) → Kd H' a (n + 1)
section
variable {K : PySem.W.Frag} {T : List (Addr × Str)} {m m' m1 m2 : List Addr} {H H' H1 H2 : Hp} {st st' st1 st2 : Store} {a : Addr} {o : HO} {x : V} {v : PV}
theorem Grow.refl : Grow m H m H := ⟨⟨[], by simp, by simp⟩, fun _ _ h _ _ => h, fun _ o h n => ⟨o, h, n⟩, fun _ _ h => h⟩
theorem Grow.notin (g : Grow m H m' H') (h : H a = some o) (n : a ∉ m) (nt : NT o) : a ∉ m' := by
  obtain ⟨e, rfl, he⟩ := g.pre
  intro hm
  rcases List.mem_append.mp hm with q | q
  · exact n q
  · exact he a q o h nt
theorem Grow.trans (g : Grow m H m1 H1) (g' : Grow m1 H1 m2 H2) : Grow m H m2 H2 := by
  refine ⟨?_, fun a o h n nt => g'.keep a o (g.keep a o h n nt) (g.notin h n nt) nt, fun a o h nt => ?_, fun a n h => g'.kd a n (g.kd a n h)⟩
  · obtain ⟨e, rfl, he⟩ := g.pre
    obtain ⟨e', rfl, he'⟩ := g'.pre
    refine ⟨e ++ e', by simp, fun a ha o h nt => ?_⟩
    rcases List.mem_append.mp ha with q | q
    · exact he a q o h nt
    · obtain ⟨o', h', nt'⟩ := g.there a o h nt
      exact he' a q o' h' nt'
  · obtain ⟨o', h', nt'⟩ := g.there a o h nt
    exact g'.there a o' h' nt'
theorem Rel.atH (r : Rel K T m st H) (h : a ∈ m) : ∃ o, H a = some o ∧ kOf o ≠ 0 := by
  obtain ⟨n, hn⟩ := List.getElem?_of_mem h
  have hl : n < st.length := by rw [← r.len]; exact (List.getElem?_eq_some_iff.mp hn).1
  have q := r.ob n a st[n] hn (by simp [hl])
  revert q
  cases st[n] with
  | lst l => rintro ⟨xs, h, _⟩; exact ⟨_, h, fun z => by cases z⟩
  | dct l => rintro ⟨xs, h, _⟩; exact ⟨_, h, fun z => by cases z⟩
  | dtt l => rintro ⟨xs, h, _⟩; exact ⟨_, h, fun z => by cases z⟩
  | ins C l => rintro ⟨d, xs, h, _⟩; exact ⟨_, h, fun z => by cases z⟩
  | dck o k l => rintro ⟨h, _⟩; exact ⟨_, h, fun z => by cases z⟩
  | dtk o k l => rintro ⟨h, _⟩; exact ⟨_, h, fun z => by cases z⟩
theorem isHd_nt {o : HO} (h : kOf o ≠ 0) : NT o := fun ps e => by subst e; exact h rfl
theorem Rel.notin (r : Rel K T m st H) (h : H a = some o) (ne : kOf o = 0 := by rfl) : a ∉ m := fun q => by
  obtain ⟨u, e, b⟩ := r.atH q
  rw [h] at e
  cases e
  exact b ne
theorem sqt_grow {xs : List V} (r : Rel K T m st H) (g : Grow m H m' H') (h : SqT K H a xs) : SqT K H' a xs := by
  rcases h with (h | ⟨o, h⟩) | h
  · exact .inl (.inl (g.keep _ _ h (r.notin h) fun _ z => by cases z))
  · exact .inl (.inr ⟨o, g.keep _ _ h (r.notin h) fun _ z => by cases z⟩)
  · exact .inr h
theorem lsr_grow {xs : List V} (r : Rel K T m st H) (g : Grow m H m' H') (h : LsR K m H a xs) : LsR K m' H' a xs := by
  rcases h with ⟨h | ⟨o, h⟩, n⟩ | h
  · exact .inl ⟨.inl (g.keep _ _ h n fun _ z => by cases z), g.notin h n fun _ z => by cases z⟩
  · exact .inl ⟨.inr ⟨o, g.keep _ _ h n fun _ z => by cases z⟩, g.notin h n fun _ z => by cases z⟩
  · exact .inr h
theorem get_grow {n : Nat} (g : Grow m H m' H') (h : m[n]? = some a) : m'[n]? = some a := by
  obtain ⟨e, rfl, _⟩ := g.pre
  rw [List.getElem?_append_left (List.getElem?_eq_some_iff.mp h).1]
  exact h
mutual
theorem RV.grow (r : Rel K T m st H) (g : Grow m H m' H') : ∀ {x : V} {v : PV}, RV K m H x v → RV K m' H' x v
  | _, _, .non => .non
  | _, _, .bl b => .bl b
  | _, _, .int i => .int i
  | _, _, .str s => .str s
  | _, _, .ty n => .ty n
  | _, _, .tup h hs => .tup (sqt_grow r g h) (RVs.grow r g hs)
  | _, _, .lst h hs => .lst (lsr_grow r g h) (RVs.grow r g hs)
  | _, _, .hd h k => .hd (get_grow g h) (g.kd _ _ k)
  | _, _, .dh h k => .dh (get_grow g h) (g.kd _ _ k)
  | _, _, .oh h k => .oh (get_grow g h) (g.kd _ _ k)
  | _, _, .adr a => .adr a
  | _, _, .exc h hv => .exc (g.keep _ _ h (r.notin h) fun _ z => by cases z) (RV.grow r g hv)
theorem RVs.grow (r : Rel K T m st H) (g : Grow m H m' H') : ∀ {xs : List V} {vs : List PV}, RVs K m H xs vs → RVs K m' H' xs vs
  | _, _, .nil => .nil
  | _, _, .cons h hs => .cons (RV.grow r g h) (RVs.grow r g hs)
end
theorem ObR.move {o : Ob} (r : Rel K T m st H) (g : Grow m H m' H') (e : ∀ u, H a = some u → H' a = some u) (q : ObR K m H a o) : ObR K m' H' a o := by
  cases o with
  | lst l =>
    obtain ⟨xs, h, rs⟩ := q
    exact ⟨xs, e _ h, rs.grow r g⟩
  | dct l =>
    obtain ⟨xs, h, hk, rs⟩ := q
    exact ⟨xs, e _ h, hk, rs.grow r g⟩
  | dtt l =>
    obtain ⟨xs, h, hk, rs⟩ := q
    exact ⟨xs, e _ h, hk, rs.grow r g⟩
  | ins C l =>
    obtain ⟨d, xs, h, hk, rs⟩ := q
    exact ⟨d, xs, e _ h, hk, rs.grow r g⟩
  | dck o k l =>
    obtain ⟨h, hk, rs⟩ := q
    exact ⟨e _ h, hk, rs.grow r g⟩
  | dtk o k l =>
    obtain ⟨h, hk, rs⟩ := q
    exact ⟨e _ h, hk, rs.grow r g⟩
theorem RVs.length : ∀ {xs : List V} {vs : List PV}, RVs K m H xs vs → xs.length = vs.length
  | _, _, .nil => rfl
  | _, _, .cons _ h => by simp [RVs.length h]
theorem RVs.get : ∀ {xs : List V} {vs : List PV} {i : Nat} {v : PV}, RVs K m H xs vs → vs[i]? = some v → ∃ x, xs[i]? = some x ∧ RV K m H x v
  | _, _, _, _, .nil, e => by simp at e
  | _, _, 0, _, .cons r _, e => by simp at e; subst e; exact ⟨_, rfl, r⟩
  | _, _, i + 1, v, .cons _ t, e => by
    obtain ⟨u, h1, h2⟩ := RVs.get (i := i) (v := v) t (by simpa using e)
    exact ⟨u, by simpa using h1, h2⟩
theorem RVs.set {w : PV} {y : V} (r : RV K m H y w) : ∀ {xs : List V} {vs : List PV} (i : Nat), RVs K m H xs vs → RVs K m H (xs.set i y) (vs.set i w)
  | _, _, _, .nil => .nil
  | _, _, 0, .cons _ t => .cons r t
  | _, _, i + 1, .cons q t => .cons q (RVs.set r i t)
theorem RVs.append : ∀ {xs ys : List V} {vs ws : List PV}, RVs K m H xs vs → RVs K m H ys ws → RVs K m H (xs ++ ys) (vs ++ ws)
  | _, _, _, _, .nil, s => s
  | _, _, _, _, .cons r t, s => .cons r (RVs.append t s)
/-- a new object that is no handle -/
theorem Grow.new {p : Addr} (h : H p = none) : Grow m H m (upd H p o) :=
  ⟨⟨[], by simp, by simp⟩, fun a u e _ _ => by rw [upd_ne (ne_of_none e h)]; exact e, fun a u e nt => ⟨u, by rw [upd_ne (ne_of_none e h)]; exact e, nt⟩, fun a n ⟨u, e, q⟩ => ⟨u, by rw [upd_ne (ne_of_none e h)]; exact e, q⟩⟩
theorem Rel.new {p : Addr} (r : Rel K T m st H) (h : H p = none) : Rel K T m st (upd H p o) := by
  have g : Grow m H m (upd H p o) := Grow.new h
  exact ⟨r.len, r.nd, fun n a ob h1 h2 => (r.ob n a ob h1 h2).move r g fun u e => by rw [upd_ne (ne_of_none e h)]; exact e, r.tab.ext fun b u e => by rw [upd_ne (ne_of_none e h)]; exact e⟩
theorem Rel.mem_ne {p : Addr} (r : Rel K T m st H) (h : H p = none) : p ∉ m := fun q => by
  obtain ⟨xs, e, _⟩ := r.atH q
  rw [h] at e; cases e
end
abbrev Env := List (Option PV)
structure RS (K : PySem.W.Frag) (m : List Addr) (H : Hp) (σ : L2.St) (ρ : Env) : Prop where
  len : σ.length = ρ.length
  val : ∀ (i : Nat) (v : PV), ρ[i]? = some (some v) → ∃ x, σ[i]? = some (some x) ∧ RV K m H x v
section
variable {K : PySem.W.Frag} {T : List (Addr × Str)} {m m' : List Addr} {H H' : Hp} {st : Store} {σ : L2.St} {ρ : Env} {x : V} {v : PV}
theorem RS.grow (r : Rel K T m st H) (g : Grow m H m' H') (s : RS K m H σ ρ) : RS K m' H' σ ρ := ⟨s.len, fun i v e => by
  obtain ⟨x, e1, e2⟩ := s.val i v e
  exact ⟨x, e1, e2.grow r g⟩⟩
theorem RS.set (s : RS K m H σ ρ) (i : Nat) (r : RV K m H x v) : RS K m H (σ.set i (some x)) (ρ.set i (some v)) := by
  refine ⟨by simp [s.len], fun j w e => ?_⟩
  by_cases hj : i = j
  · subst hj
    have hl : i < ρ.length := by
      have := (List.getElem?_eq_some_iff.mp e).1
      simpa using this
    rw [List.getElem?_set_self hl] at e
    cases e
    exact ⟨x, List.getElem?_set_self (by rw [s.len]; exact hl), r⟩
  · rw [List.getElem?_set_ne hj] at e ⊢
    exact s.val j w e
theorem RS.clear (s : RS K m H σ ρ) (i : Nat) (o : Option V) : RS K m H (σ.set i o) (ρ.set i none) := by
  refine ⟨by simp [s.len], fun j w e => ?_⟩
  by_cases hj : i = j
  · subst hj
    have hl : i < ρ.length := by
      have := (List.getElem?_eq_some_iff.mp e).1
      simpa using this
    rw [List.getElem?_set_self hl] at e
    cases e
  · rw [List.getElem?_set_ne hj] at e ⊢
    exact s.val j w e
end
structure Exn where
  cls : Addr
  fld : Str
  val : PV
abbrev PK := PV → Store → Prop
abbrev XP := Exn → Store → Prop
abbrev Sem := Env → Store → PK → XP → Prop
abbrev SemT := Env → Store → (Bool → Store → Prop) → XP → Prop
abbrev SemA := Env → Store → (List PV → Store → Prop) → XP → Prop
def ExR (K : PySem.W.Frag) (m : List Addr) (H : Hp) (cls : Value) (d : Option Addr) (e : Exn) : Prop :=
  cls = .ref e.cls ∧ ∃ dd x, d = some dd ∧ H dd = some (.xd [(e.fld, x)]) ∧ RV K m H x e.val
/-- every end that P tells does for Q -/
def Fin (K : PySem.W.Frag) (T : List (Addr × Str)) (m : List Addr) (H : Hp) (P : PK) (Q : VK) : Prop := ∀ v st', P v st' → ∀ x m' H', Grow m H m' H' → Rel K T m' st' H' → RV K m' H' x v → Q x H'
def FinT (K : PySem.W.Frag) (T : List (Addr × Str)) (m : List Addr) (H : Hp) (P : Bool → Store → Prop) (Q : Bool → Hp → Prop) : Prop := ∀ b st', P b st' → ∀ m' H', Grow m H m' H' → Rel K T m' st' H' → Q b H'
def FinA (K : PySem.W.Frag) (T : List (Addr × Str)) (m : List Addr) (H : Hp) (P : List PV → Store → Prop) (Q : List V → Hp → Prop) : Prop := ∀ vs st', P vs st' → ∀ xs m' H', Grow m H m' H' → Rel K T m' st' H' → RVs K m' H' xs vs → Q xs H'
def FinX (K : PySem.W.Frag) (T : List (Addr × Str)) (m : List Addr) (H : Hp) (P : XP) (W : XK) : Prop := ∀ e st', P e st' → ∀ cls d m' H', Grow m H m' H' → Rel K T m' st' H' → ExR K m' H' cls d e → W cls d H'
section
variable {K : PySem.W.Frag} {T : List (Addr × Str)} {m m' : List Addr} {H H' : Hp} {st : Store} {σ : L2.St} {ρ : Env} {x : V} {v : PV}
theorem Fin.step {P : PK} {Q : VK} (g : Grow m H m' H') (f : Fin K T m H P Q) : Fin K T m' H' P Q := fun v st' p x m1 H1 g1 => f v st' p x m1 H1 (g.trans g1)
theorem FinT.step {P : Bool → Store → Prop} {Q : Bool → Hp → Prop} (g : Grow m H m' H') (f : FinT K T m H P Q) : FinT K T m' H' P Q := fun v st' p m1 H1 g1 => f v st' p m1 H1 (g.trans g1)
theorem FinA.step {P : List PV → Store → Prop} {Q : List V → Hp → Prop} (g : Grow m H m' H') (f : FinA K T m H P Q) : FinA K T m' H' P Q := fun v st' p x m1 H1 g1 => f v st' p x m1 H1 (g.trans g1)
theorem FinX.step {P : XP} {W : XK} (g : Grow m H m' H') (f : FinX K T m H P W) : FinX K T m' H' P W := fun e st' p cls d m1 H1 g1 => f e st' p cls d m1 H1 (g.trans g1)
end
def tE (K : PySem.W.Frag) (T : List (Addr × Str)) (W : WX) (f : Sem) : TE := fun σ H Q => ∃ ρ st m P PX, RS K m H σ ρ ∧ Rel K T m st H ∧ f ρ st P PX ∧ Fin K T m H P Q ∧ FinX K T m H PX (fun c d H' => W c d σ H')
def tT (K : PySem.W.Frag) (T : List (Addr × Str)) (W : WX) (f : SemT) : TT := fun σ H Q => ∃ ρ st m P PX, RS K m H σ ρ ∧ Rel K T m st H ∧ f ρ st P PX ∧ FinT K T m H P Q ∧ FinX K T m H PX (fun c d H' => W c d σ H')
def tA (K : PySem.W.Frag) (T : List (Addr × Str)) (W : WX) (f : SemA) : TA := fun σ H Q => ∃ ρ st m P PX, RS K m H σ ρ ∧ Rel K T m st H ∧ f ρ st P PX ∧ FinA K T m H P Q ∧ FinX K T m H PX (fun c d H' => W c d σ H')
abbrev JE (X : Cx) (T : List (Addr × Str)) (W : WX) (e : Expr) (f : Sem) : Prop := PE X e (tE X.K T W f)
abbrev JT (X : Cx) (T : List (Addr × Str)) (W : WX) (e : Expr) (f : SemT) : Prop := PT X e (tT X.K T W f)
abbrev JW (X : Cx) (T : List (Addr × Str)) (W : WX) (e : Expr) (f : SemT) : Prop := L2.PW X e (tT X.K T W f)
abbrev JA (X : Cx) (T : List (Addr × Str)) (W : WX) (es : List Expr) (f : SemA) : Prop := PA X es (tA X.K T W f)
theorem PE.imp {X : Cx} {e : Expr} {t t' : TE} (h : PE X e t) (i : ∀ σ H Q, t' σ H Q → t σ H Q) : PE X e t' := ⟨fun pins s σ H Q I q => h.run pins s σ H Q I (i σ H Q q)⟩
theorem PT.imp {X : Cx} {e : Expr} {t t' : TT} (h : PT X e t) (i : ∀ σ H Q, t' σ H Q → t σ H Q) : PT X e t' := ⟨fun pins s σ H Q I q => h.run pins s σ H Q I (i σ H Q q)⟩
theorem PW.imp {X : Cx} {e : Expr} {t t' : TT} (h : L2.PW X e t) (i : ∀ σ H Q, t' σ H Q → t σ H Q) : L2.PW X e t' := ⟨fun wh pins s σ H Q I q => h.run wh pins s σ H Q I (i σ H Q q)⟩
theorem PA.imp {X : Cx} {e : List Expr} {t t' : TA} (h : PA X e t) (i : ∀ σ H Q, t' σ H Q → t σ H Q) : PA X e t' := ⟨fun pos pins s σ H Q I q => h.run pos pins s σ H Q I (i σ H Q q)⟩
end Sm
set_option Elab.async false
set_option linter.all false
set_option maxRecDepth 100000
set_option maxHeartbeats 1000000
namespace Sm
open PySem PySem.Spec PyProof.Rows L2
def sVar (i : Nat) : Sem := fun ρ st P _ => match ρ[i]? with
  | some (some v) => P v st
  | _ => False
def sC (v : PV) : Sem := fun _ st P _ => P v st
section
variable {X : Cx} {T : List (Addr × Str)} {W : WX} {pos : Pos}
theorem w_var (i : Nat) {x : Str} (hN : X.N[i]? = some x := by rfl) (hv : Vis X.env.scope x := by first | exact Or.inl rfl | exact Or.inr (Or.inl rfl) | exact Or.inr (Or.inr rfl)) (hd : (x == ("__debug__" : Str)) = false := by decide)
    (hcd : (x == ("__classdict__" : Str)) = false := by decide) : JE X T W (.Name x pos) (sVar i) :=
  PE.imp (pe_var hN hv hd hcd) fun σ H Q h => by
    obtain ⟨ρ, st, m, P, PX, rs, rel, hf, fin, _⟩ := h
    unfold sVar at hf
    revert hf
    cases e : ρ[i]? with
    | none => exact False.elim
    | some o =>
      cases o with
      | none => exact False.elim
      | some v =>
        intro hf
        obtain ⟨x', e1, r⟩ := rs.val i v e
        exact ⟨x', e1, fin v st hf x' m H Grow.refl rel r⟩
theorem w_const {e : Expr} {x : V} {v : PV} (h : PE X e (tC x)) (r : ∀ m H, RV X.K m H x v) : JE X T W e (sC v) :=
  PE.imp h fun σ H Q h => by
    obtain ⟨ρ, st, m, P, PX, rs, rel, hf, fin, _⟩ := h
    exact fin v st hf x m H Grow.refl rel (r m H)
theorem w_int {i : Int} {j : Nat} : JE X T W (.Constant (.int i) j pos) (sC (.int i)) := w_const pe_int fun _ _ => .int i
theorem w_bl {b : Bool} {j : Nat} : JE X T W (.Constant (.bool b) j pos) (sC (.bl b)) := w_const pe_bl fun _ _ => .bl b
theorem w_non {j : Nat} : JE X T W (.Constant .none j pos) (sC .non) := w_const pe_non fun _ _ => .non
theorem w_str {x : Str} {j : Nat} : JE X T W (.Constant (.str x) j pos) (sC (.str x)) := w_const pe_str fun _ _ => .str x
theorem w_glob {x : Str} {y : V} {u : Value} {v : PV} (hg : Gl X x) (hm : X.mg x = some u) (r : RelV y u) (rv : ∀ m H, RV X.K m H y v) (hd : (x == ("__debug__" : Str)) = false := by decide) : JE X T W (.Name x pos) (sC v) := w_const (pe_glob hg hm r hd) rv
theorem w_type {x : Str} {n : String} (hg : Gl X x) (hm : X.mg x = none) (hv : bootBuiltins x = some (.type n)) (hn : x ≠ "__name__" := by decide) (hd : (x == ("__debug__" : Str)) = false := by decide) : JE X T W (.Name x pos) (sC (.ty n)) :=
  w_const (pe_bltn (v := .ty n) hg hm hv rfl hn hd) fun _ _ => .ty n
end
abbrev SOp := PV → PV → Store → PK → Prop
def sOp (o : SOp) (f g : Sem) : Sem := fun ρ st P PX => f ρ st (fun x st1 => g ρ st1 (fun y st2 => o x y st2 P) PX) PX
def OpS (K : PySem.W.Frag) (T : List (Addr × Str)) (r : R2) (o : SOp) : Prop := ∀ (x y : V) (v w : PV) (m : List Addr) (H : Hp) (st : Store) (P : PK) (Q : VK), Rel K T m st H → RV K m H x v → RV K m H y w → o v w st P → Fin K T m H P Q → r x y H Q
theorem tOp_of {K : PySem.W.Frag} {T : List (Addr × Str)} {W : WX} {r : R2} {o : SOp} {f g : Sem} (hs : OpS K T r o) {σ : L2.St} {H : Hp} {Q : VK} (h : tE K T W (sOp o f g) σ H Q) : tOp r (tE K T W f) (tE K T W g) σ H Q := by
  obtain ⟨ρ, st, m, P, PX, rs, rel, hf, fin, finx⟩ := h
  exact ⟨ρ, st, m, _, PX, rs, rel, hf, fun v st1 hg x m1 H1 g1 rel1 rv1 => ⟨ρ, st1, m1, _, PX, rs.grow rel g1, rel1, hg, fun w st2 ho y m2 H2 g2 rel2 rv2 => hs x y v w m2 H2 st2 P Q rel2 (rv1.grow rel1 g2) rv2 ho ((fin.step g1).step g2), finx.step g1⟩, finx⟩
section
variable {X : Cx} {T : List (Addr × Str)} {W : WX} {pos : Pos} {a b : Expr} {f g : Sem}
theorem w_op {op : Operator} {r : R2} {o : SOp} (ho : OpR X (binaryOp op) r) (hs : OpS X.K T r o) (ha : JE X T W a f) (hb : JE X T W b g) : JE X T W (.BinOp a op b pos) (sOp o f g) :=
  PE.imp (pe_op ho ha hb) fun _ _ _ h => tOp_of hs h
theorem w_cmp {op : CmpOp} {r : R2} {o : SOp} (ho : OpR X (compareOp op) r) (hs : OpS X.K T r o) (ha : JE X T W a f) (hb : JE X T W b g) (hm : behindInMarks op b = false) : JE X T W (.Compare a [op] [b] pos) (sOp o f g) :=
  PE.imp (pe_cmpR ho ha hb hm) fun _ _ _ h => tOp_of hs h
end
def oI (C : Int → Int → Prop) (k : Int → Int → PV) : SOp := fun x y st P => match x, y with
  | .int i, .int j => C i j ∧ P (k i j) st
  | _, _ => False
def oI0 (k : Int → Int → PV) : SOp := fun x y st P => match x, y with
  | .int i, .int j => P (k i j) st
  | _, _ => False
section
variable {K : PySem.W.Frag} {T : List (Addr × Str)}
theorem os_I {C : Int → Int → Prop} {g : Int → Int → Int} : OpS K T (rI C fun i j => .int (g i j)) (oI C fun i j => .int (g i j)) := fun x y v w m H st P Q rel rx ry h fin => by
  cases rx <;> cases ry <;> first | exact h.elim | skip
  obtain ⟨h1, h2⟩ := h
  exact ⟨_, _, rfl, rfl, h1, fin _ st h2 _ m H Grow.refl rel (.int _)⟩
theorem os_I0 {g : Int → Int → Int} : OpS K T (rI0 fun i j => .int (g i j)) (oI0 fun i j => .int (g i j)) := fun x y v w m H st P Q rel rx ry h fin => by
  cases rx <;> cases ry <;> first | exact h.elim | skip
  exact ⟨_, _, rfl, rfl, fin _ st h _ m H Grow.refl rel (.int _)⟩
theorem os_B0 {g : Int → Int → Bool} : OpS K T (rI0 fun i j => .bl (g i j)) (oI0 fun i j => .bl (g i j)) := fun x y v w m H st P Q rel rx ry h fin => by
  cases rx <;> cases ry <;> first | exact h.elim | skip
  exact ⟨_, _, rfl, rfl, fin _ st h _ m H Grow.refl rel (.bl _)⟩
end
/-- + of ints, of texts -/
def oAdd : SOp := fun x y st P => match x, y with
  | .int i, .int j => P (.int (i + j)) st
  | .str i, .str j => i.length + j.length ≤ sizeLine ∧ P (.str (i ++ j)) st
  | _, _ => False
theorem os_add {K : PySem.W.Frag} {T : List (Addr × Str)} : OpS K T (fun x y H Q => (rI0 fun i j => .int (i + j)) x y H Q ∨ (∃ i j, x = .str i ∧ y = .str j ∧ i.length + j.length ≤ sizeLine ∧ Q (.str (i ++ j)) H)) oAdd := fun x y v w m H st P Q rel rx ry h fin => by
  cases rx <;> cases ry <;> first | exact h.elim | skip
  · exact .inl ⟨_, _, rfl, rfl, fin _ st h _ m H Grow.refl rel (.int _)⟩
  · exact .inr ⟨_, _, rfl, rfl, h.1, fin _ st h.2 _ m H Grow.refl rel (.str _)⟩
def CDivG (i j : Int) : Prop := j ≠ 0 ∧ Builtin.divisionGoesByPylong i j = false
def CMod (_ j : Int) : Prop := j ≠ 0
def CPowG (i j : Int) : Prop := 0 < j ∧ 2 ≤ i ∧ (Builtin.Int.intBits i : Int) * j ≤ 134217728
section
variable {X : Cx} {T : List (Addr × Str)} {W : WX} {pos : Pos} {a b : Expr} {f g : Sem}
theorem op_fdivG : OpR X (binaryOp .FloorDiv) (rI CDivG fun i j => .int (i.fdiv j)) := opI fun _ _ _ _ _ _ _ hc q => floordiv_int hc.1 q (.inl hc.2)
theorem op_powG : OpR X (binaryOp .Pow) (rI CPowG fun i j => .int (i ^ j.toNat)) := opI fun _ _ _ _ _ _ _ hc q => by
  obtain ⟨h1, h2, h3⟩ := hc
  refine PySem.AutoIntOps.pow_4 (by omega) (by simp; omega) (by simp; omega) (by simp; omega) ?_ q
  have e : bitsLine = 134217728 := by decide
  unfold Builtin.Int.intTooBig
  rw [e]
  simp
  omega
abbrev oSub : SOp := oI0 fun i j => .int (i - j)
abbrev oMul : SOp := oI CMulX fun i j => .int (i * j)
abbrev oDiv : SOp := oI CDivG fun i j => .int (i.fdiv j)
abbrev oMod : SOp := oI CMod fun i j => .int (i.fmod j)
abbrev oPow : SOp := oI CPowG fun i j => .int (i ^ j.toNat)
abbrev oShr : SOp := oI (fun _ j => 0 ≤ j) fun i j => .int (i / 2 ^ j.toNat)
abbrev oAnd : SOp := oI0 fun i j => .int (Builtin.bitAnd i j)
theorem w_add (ha : JE X T W a f) (hb : JE X T W b g) : JE X T W (.BinOp a .Add b pos) (sOp oAdd f g) := w_op (OpR.or op_add op_add_str) os_add ha hb
theorem w_sub (ha : JE X T W a f) (hb : JE X T W b g) : JE X T W (.BinOp a .Sub b pos) (sOp oSub f g) := w_op op_sub os_I0 ha hb
theorem w_mul (ha : JE X T W a f) (hb : JE X T W b g) : JE X T W (.BinOp a .Mult b pos) (sOp oMul f g) := w_op op_mulX os_I ha hb
theorem w_div (ha : JE X T W a f) (hb : JE X T W b g) : JE X T W (.BinOp a .FloorDiv b pos) (sOp oDiv f g) := w_op op_fdivG os_I ha hb
theorem w_mod (ha : JE X T W a f) (hb : JE X T W b g) : JE X T W (.BinOp a .Mod b pos) (sOp oMod f g) := w_op op_modN os_I ha hb
theorem w_pow (ha : JE X T W a f) (hb : JE X T W b g) : JE X T W (.BinOp a .Pow b pos) (sOp oPow f g) := w_op op_powG os_I ha hb
theorem w_shr (ha : JE X T W a f) (hb : JE X T W b g) : JE X T W (.BinOp a .RShift b pos) (sOp oShr f g) := w_op op_shr os_I ha hb
theorem w_and (ha : JE X T W a f) (hb : JE X T W b g) : JE X T W (.BinOp a .BitAnd b pos) (sOp oAnd f g) := w_op op_and os_I0 ha hb
abbrev oLt : SOp := oI0 fun i j => .bl (decide (i < j))
abbrev oLe : SOp := oI0 fun i j => .bl (decide (i ≤ j))
abbrev oGt : SOp := oI0 fun i j => .bl (decide (j < i))
abbrev oGe : SOp := oI0 fun i j => .bl (decide (j ≤ i))
theorem w_lt (ha : JE X T W a f) (hb : JE X T W b g) : JE X T W (.Compare a [.Lt] [b] pos) (sOp oLt f g) := w_cmp op_lt os_B0 ha hb (nomark _)
theorem w_ge (ha : JE X T W a f) (hb : JE X T W b g) : JE X T W (.Compare a [.GtE] [b] pos) (sOp oGe f g) := w_cmp op_ge os_B0 ha hb (nomark _)
end
mutual
def dat0 : PV → Option PyData
  | .non => some .none
  | .bl b => some (.bool b)
  | .int i => some (.int i)
  | .str x => some (.str x)
  | .tup l => (dats0 l).map .tuple
  | .lst l => (dats0 l).map .list
  | _ => none
def dats0 : List PV → Option (List PyData)
  | [] => some []
  | v :: vs => match dat0 v, dats0 vs with
    | some d, some ds => some (d :: ds)
    | _, _ => none
end
def dat (st : Store) : PV → Option PyData
  | .hd n => match st[n]? with
    | some (.lst l) => (dats0 l).map .list
    | _ => none
  | v => dat0 v
section
variable {K : PySem.W.Frag} {T : List (Addr × Str)} {m : List Addr} {H : Hp} {st : Store}
theorem LsR.sq {a : Addr} {xs : List V} (h : LsR K m H a xs) : SqL K H a xs := by
  rcases h with ⟨h, _⟩ | h
  · exact .inl h
  · exact .inr h
mutual
theorem dp_of0 : ∀ {x : V} {v : PV} {d : PyData}, RV K m H x v → dat0 v = some d → Dp K H x d
  | _, _, d, .non, e => by simp only [dat0, Option.some.injEq] at e; subst e; exact .non
  | _, _, d, .bl b, e => by simp only [dat0, Option.some.injEq] at e; subst e; exact .bl b
  | _, _, d, .int i, e => by simp only [dat0, Option.some.injEq] at e; subst e; exact .int i
  | _, _, d, .str x, e => by simp only [dat0, Option.some.injEq] at e; subst e; exact .str x
  | _, _, d, .ty n, e => by simp only [dat0] at e; cases e
  | _, _, d, .tup (l := l) h hs, e => by
    simp only [dat0] at e
    cases q : dats0 l with
    | none => rw [q] at e; cases e
    | some ds => rw [q] at e; simp only [Option.map_some, Option.some.injEq] at e; subst e; exact .tup h (dps_of0 hs q)
  | _, _, d, .lst (l := l) h hs, e => by
    simp only [dat0] at e
    cases q : dats0 l with
    | none => rw [q] at e; cases e
    | some ds => rw [q] at e; simp only [Option.map_some, Option.some.injEq] at e; subst e; exact .lst h.sq (dps_of0 hs q)
  | _, _, d, .hd h _, e => by simp only [dat0] at e; cases e
  | _, _, d, .dh h _, e => by simp only [dat0] at e; cases e
  | _, _, d, .oh h _, e => by simp only [dat0] at e; cases e
  | _, _, d, .adr a, e => by simp only [dat0] at e; cases e
  | _, _, d, .exc h hv, e => by simp only [dat0] at e; cases e
theorem dps_of0 : ∀ {xs : List V} {vs : List PV} {ds : List PyData}, RVs K m H xs vs → dats0 vs = some ds → DpAll K H xs ds
  | _, _, ds, .nil, e => by simp only [dats0, Option.some.injEq] at e; subst e; exact .nil
  | _, _, ds, .cons (d := v) (ds := vs) h hs, e => by
    simp only [dats0] at e
    cases q1 : dat0 v with
    | none => rw [q1] at e; cases e
    | some d1 =>
      cases q2 : dats0 vs with
      | none => rw [q1, q2] at e; cases e
      | some d2 => rw [q1, q2] at e; simp only [Option.some.injEq] at e; subst e; exact .cons (dp_of0 h q1) (dps_of0 hs q2)
end
theorem dp_of {x : V} {v : PV} {d : PyData} (rel : Rel K T m st H) (r : RV K m H x v) (e : dat st v = some d) : Dp K H x d := by
  cases r with
  | dh h k => exact dp_of0 (m := m) (.dh h k) e
  | oh h k => exact dp_of0 (m := m) (.oh h k) e
  | @hd a n h hk =>
    simp only [dat] at e
    cases q : st[n]? with
    | none => rw [q] at e; cases e
    | some o =>
      rw [q] at e
      cases o with
      | dct l => cases e
      | dtt l => cases e
      | ins C l => cases e
      | dck o k l => cases e
      | dtk o k l => cases e
      | lst l =>
      obtain ⟨xs, h1, h2⟩ := rel.ob n a _ h q
      simp only at e
      cases q2 : dats0 l with
      | none => rw [q2] at e; cases e
      | some ds => rw [q2] at e; simp only [Option.map_some, Option.some.injEq] at e; subst e; exact .lst (SqL.of h1) (dps_of0 h2 q2)
  | non => exact dp_of0 (m := m) .non e
  | bl b => exact dp_of0 (m := m) (.bl b) e
  | int b => exact dp_of0 (m := m) (.int b) e
  | str b => exact dp_of0 (m := m) (.str b) e
  | ty b => exact dp_of0 (m := m) (.ty b) e
  | tup h hs => exact dp_of0 (m := m) (.tup h hs) e
  | lst h hs => exact dp_of0 (m := m) (.lst h hs) e
  | adr a => exact dp_of0 (m := m) (.adr a) e
  | exc h hv => exact dp_of0 (m := m) (.exc h hv) e
end
/-- == of data: D tells what the two are -/
def oEq : SOp := fun x y st P => match dat st x, dat st y with
  | some d, some e => SeqAt.shaped d = true ∧ SeqAt.shaped e = true ∧ P (.bl (PyData.eqv d e)) st
  | _, _ => False
def oNe : SOp := fun x y st P => match dat st x, dat st y with
  | some d, some e => SeqAt.shaped d = true ∧ SeqAt.shaped e = true ∧ P (.bl (!PyData.eqv d e)) st
  | _, _ => False
theorem os_eq {K : PySem.W.Frag} {T : List (Addr × Str)} : OpS K T (rEqD K) oEq := fun x y v w m H st P Q rel rx ry h fin => by
  unfold oEq at h
  cases e1 : dat st v with
  | none => rw [e1] at h; exact h.elim
  | some d =>
    cases e2 : dat st w with
    | none => rw [e1, e2] at h; exact h.elim
    | some e =>
      rw [e1, e2] at h
      exact ⟨d, e, dp_of rel rx e1, dp_of rel ry e2, h.1, h.2.1, fin _ st h.2.2 _ m H Grow.refl rel (.bl _)⟩
theorem os_ne {K : PySem.W.Frag} {T : List (Addr × Str)} : OpS K T (rNeD K) oNe := fun x y v w m H st P Q rel rx ry h fin => by
  unfold oNe at h
  cases e1 : dat st v with
  | none => rw [e1] at h; exact h.elim
  | some d =>
    cases e2 : dat st w with
    | none => rw [e1, e2] at h; exact h.elim
    | some e =>
      rw [e1, e2] at h
      exact ⟨d, e, dp_of rel rx e1, dp_of rel ry e2, h.1, h.2.1, fin _ st h.2.2 _ m H Grow.refl rel (.bl _)⟩
def oInS (neg : Bool) : SOp := fun x y st P => match x, y with
  | .str s, .str z => ∃ c, s = ⟨#[c]⟩ ∧ P (.bl (if neg then !decide (c ∈ z.cps.toList) else decide (c ∈ z.cps.toList))) st
  | _, _ => False
theorem os_inS {K : PySem.W.Frag} {T : List (Addr × Str)} : OpS K T (fun x y H Q => ∃ (c : Nat) (z : Str), x = .str ⟨#[c]⟩ ∧ y = .str z ∧ Q (.bl (decide (c ∈ z.cps.toList))) H) (oInS false) := fun x y v w m H st P Q rel rx ry h fin => by
  unfold oInS at h
  split at h
  · cases rx
    cases ry
    obtain ⟨c, rfl, h⟩ := h
    exact ⟨_, _, rfl, rfl, fin _ st h _ m H Grow.refl rel (.bl _)⟩
  · exact h.elim
theorem os_niS {K : PySem.W.Frag} {T : List (Addr × Str)} : OpS K T (fun x y H Q => ∃ (c : Nat) (z : Str), x = .str ⟨#[c]⟩ ∧ y = .str z ∧ Q (.bl (!decide (c ∈ z.cps.toList))) H) (oInS true) := fun x y v w m H st P Q rel rx ry h fin => by
  unfold oInS at h
  split at h
  · cases rx
    cases ry
    obtain ⟨c, rfl, h⟩ := h
    exact ⟨_, _, rfl, rfl, fin _ st h _ m H Grow.refl rel (.bl _)⟩
  · exact h.elim
/-- is None, is T -/
def isNon : PV → Bool
  | .non => true
  | _ => false
def oIs (neg : Bool) : SOp := fun x y st P => match y with
  | .non => P (.bl (if neg then !isNon x else isNon x)) st
  | .ty n => match x with
    | .ty k => P (.bl (if neg then !decide (k = n) else decide (k = n))) st
    | _ => False
  | _ => False
theorem isNon_eq {K : PySem.W.Frag} {m : List Addr} {H : Hp} {x : V} {v : PV} (r : RV K m H x v) : decide (x = .non) = isNon v := by
  cases r <;> first | rfl | (simp [isNon])
theorem os_is {K : PySem.W.Frag} {T : List (Addr × Str)} : OpS K T (fun x y H Q => (y = .non ∧ Q (.bl (decide (x = .non))) H) ∨ (∃ a b, x = .ty a ∧ y = .ty b ∧ Q (.bl (decide (a = b))) H)) (oIs false) := fun x y v w m H st P Q rel rx ry h fin => by
  unfold oIs at h
  split at h
  · cases ry
    have e := isNon_eq rx
    refine .inl ⟨rfl, ?_⟩
    rw [e]
    exact fin _ st h _ m H Grow.refl rel (.bl _)
  · split at h
    · cases ry
      cases rx
      exact .inr ⟨_, _, rfl, rfl, fin _ st h _ m H Grow.refl rel (.bl _)⟩
    · exact h.elim
  · exact h.elim
theorem os_isnot {K : PySem.W.Frag} {T : List (Addr × Str)} : OpS K T (fun x y H Q => (y = .non ∧ Q (.bl (!decide (x = .non))) H) ∨ rNT x y H Q) (oIs true) := fun x y v w m H st P Q rel rx ry h fin => by
  unfold oIs at h
  split at h
  · cases ry
    have e := isNon_eq rx
    refine .inl ⟨rfl, ?_⟩
    rw [e]
    exact fin _ st h _ m H Grow.refl rel (.bl _)
  · split at h
    · cases ry
      cases rx
      exact .inr ⟨_, _, rfl, rfl, fin _ st h _ m H Grow.refl rel (.bl _)⟩
    · exact h.elim
  · exact h.elim
section
variable {X : Cx} {T : List (Addr × Str)} {W : WX} {pos : Pos} {a b : Expr} {f g : Sem}
theorem w_is (ha : JE X T W a f) (hb : JE X T W b g) : JE X T W (.Compare a [.Is] [b] pos) (sOp (oIs false) f g) := w_cmp (OpR.or op_isN op_isTyB) os_is ha hb (nomark _)
theorem w_inS (ha : JE X T W a f) (hb : JE X T W b g) (hm : behindInMarks .In b = false := by rfl) : JE X T W (.Compare a [.In] [b] pos) (sOp (oInS false) f g) := w_cmp op_in_sign os_inS ha hb hm
/-- a <= b <= c -/
def sChain (o o' : SOp) (f g h : Sem) : Sem := fun ρ st P PX => f ρ st (fun x st1 => g ρ st1 (fun y st2 => o x y st2 fun z st3 => match z with
  | .bl true => h ρ st3 (fun u st4 => o' y u st4 P) PX
  | .bl false => P (.bl false) st3
  | _ => False) PX) PX
theorem w_chain {c : Expr} {h : Sem} {op op' : CmpOp} {r r' : R2} {o o' : SOp} (ho : OpR X (compareOp op) r) (ho' : OpR X (compareOp op') r') (hs : OpS X.K T r o) (hs' : OpS X.K T r' o') (ha : JE X T W a f) (hb : JE X T W b g) (hc : JE X T W c h)
    (hm : lastMarks [op, op'] [b, c] = false := by with_unfolding_all rfl) : JE X T W (.Compare a [op, op'] [b, c] pos) (sChain o o' f g h) :=
  PE.imp (pe_chain ho ho' ha hb hc hm) fun σ H Q hh => by
    obtain ⟨ρ, st, m, P, PX, rs, rel, hf, fin, finx⟩ := hh
    refine ⟨ρ, st, m, _, PX, rs, rel, hf, fun v st1 hg x m1 H1 g1 rel1 rv1 => ⟨ρ, st1, m1, _, PX, rs.grow rel g1, rel1, hg, fun w st2 hh2 y m2 H2 g2 rel2 rv2 => ?_, finx.step g1⟩, finx⟩
    refine hs x y v w m2 H2 st2 _ _ rel2 (rv1.grow rel1 g2) rv2 hh2 fun z st3 hz zz m3 H3 g3 rel3 rv3 => ?_
    split at hz
    · cases rv3
      refine ⟨true, rfl, ?_⟩
      rw [if_pos rfl]
      exact ⟨ρ, st3, m3, _, PX, ((rs.grow rel g1).grow rel1 g2).grow rel2 g3, rel3, hz, fun u st4 hu yu m4 H4 g4 rel4 rv4 => hs' y yu w u m4 H4 st4 P Q rel4 ((rv2.grow rel2 g3).grow rel3 g4) rv4 hu ((((fin.step g1).step g2).step g3).step g4), ((finx.step g1).step g2).step g3⟩
    · cases rv3
      refine ⟨false, rfl, ?_⟩
      rw [if_neg Bool.false_ne_true]
      exact fin _ st3 hz _ m3 H3 (((g1.trans g2).trans g3)) rel3 (.bl _)
    · exact hz.elim
end
def sNeg (f : Sem) : Sem := fun ρ st P PX => f ρ st (fun x st1 => match x with
  | .int i => P (.int (-i)) st1
  | _ => False) PX
/-- a value that is True or False, as a test -/
def sTest (f : Sem) : SemT := fun ρ st P PX => f ρ st (fun x st1 => match x with
  | .bl b => P b st1
  | _ => False) PX
def sNotT (f : SemT) : SemT := fun ρ st P PX => f ρ st (fun b st1 => P (!b) st1) PX
def sAndT (f g : SemT) : SemT := fun ρ st P PX => f ρ st (fun b st1 => match b with
  | true => g ρ st1 P PX
  | false => P false st1) PX
def sOrT (f g : SemT) : SemT := fun ρ st P PX => f ρ st (fun b st1 => match b with
  | false => g ρ st1 P PX
  | true => P true st1) PX
def sNot (f : Sem) : Sem := fun ρ st P PX => f ρ st (fun x st1 => match x with
  | .bl b => P (.bl (!b)) st1
  | _ => False) PX
def sAnd (f g : Sem) : Sem := fun ρ st P PX => f ρ st (fun x st1 => match x with
  | .bl true => g ρ st1 P PX
  | .bl false => P (.bl false) st1
  | _ => False) PX
def sOr (f g : Sem) : Sem := fun ρ st P PX => f ρ st (fun x st1 => match x with
  | .bl false => g ρ st1 P PX
  | .bl true => P (.bl true) st1
  | _ => False) PX
def sIf (c : SemT) (f g : Sem) : Sem := fun ρ st P PX => c ρ st (fun b st1 => match b with
  | true => f ρ st1 P PX
  | false => g ρ st1 P PX) PX
section
variable {X : Cx} {T : List (Addr × Str)} {W : WX} {pos : Pos} {a b : Expr} {f g : Sem} {rest : List Expr} {t u : SemT}
theorem w_neg (ha : JE X T W a f) : JE X T W (.UnaryOp .USub a pos) (sNeg f) :=
  PE.imp (pe_un un_neg ha) fun σ H Q h => by
    obtain ⟨ρ, st, m, P, PX, rs, rel, hf, fin, finx⟩ := h
    refine ⟨ρ, st, m, _, PX, rs, rel, hf, fun v st1 hv x m1 H1 g1 rel1 rv1 => ?_, finx⟩
    cases rv1 <;> first | exact hv.elim | skip
    exact ⟨_, rfl, fin _ st1 hv _ m1 H1 g1 rel1 (.int _)⟩
theorem tB_of {K : PySem.W.Frag} {T : List (Addr × Str)} {σ : L2.St} {H : Hp} {Q : Bool → Hp → Prop} (h : tT K T W (sTest f) σ H Q) : tB (tE K T W f) σ H Q := by
  obtain ⟨ρ, st, m, P, PX, rs, rel, hf, fin, finx⟩ := h
  refine ⟨ρ, st, m, _, PX, rs, rel, hf, fun v st1 hv x m1 H1 g1 rel1 rv1 => ?_, finx⟩
  cases rv1 <;> first | exact hv.elim | skip
  exact ⟨_, rfl, fin _ st1 hv m1 H1 g1 rel1⟩
theorem t_val {e : Expr} (h : JE X T W e f) (he : ∀ whole, isTrue e X.env whole = (do let v ← whole; standAt e.pos; holding [v] (truthy v)) := by intro _; rfl) : JT X T W e (sTest f) :=
  PT.imp (pt_val h he) fun _ _ _ h => tB_of h
/-- a comparison as a test -/
theorem t_cmp {op : CmpOp} {r : R2} {o : SOp} (ho : OpR X (compareOp op) r) (hs : OpS X.K T r o) (ha : JE X T W a f) (hb : JE X T W b g) (hm : behindInMarks op b = false) : JT X T W (.Compare a [op] [b] pos) (sTest (sOp o f g)) :=
  PT.imp (pt_cmpR ho ha hb hm) fun σ H Q h => by
    obtain ⟨ρ, st, m, P, PX, rs, rel, hf, fin, finx⟩ := h
    refine tOp_of hs ⟨ρ, st, m, _, PX, rs, rel, hf, fun v st1 hv x m1 H1 g1 rel1 rv1 => ?_, finx⟩
    cases rv1 <;> first | exact hv.elim | skip
    exact ⟨_, rfl, fin _ st1 hv m1 H1 g1 rel1⟩
theorem t_chain {c : Expr} {h : Sem} {op op' : CmpOp} {r r' : R2} {o o' : SOp} (ho : OpR X (compareOp op) r) (ho' : OpR X (compareOp op') r') (hs : OpS X.K T r o) (hs' : OpS X.K T r' o') (ha : JE X T W a f) (hb : JE X T W b g) (hc : JE X T W c h)
    (hm : lastMarks [op, op'] [b, c] = false := by with_unfolding_all rfl) : JT X T W (.Compare a [op, op'] [b, c] pos) (sTest (sChain o o' f g h)) :=
  PT.imp (pt_chain ho ho' ha hb hc hm) fun σ H Q hh => by
    obtain ⟨ρ, st, m, P, PX, rs, rel, hf, fin, finx⟩ := hh
    refine ⟨ρ, st, m, _, PX, rs, rel, hf, fun v st1 hg x m1 H1 g1 rel1 rv1 => ⟨ρ, st1, m1, _, PX, rs.grow rel g1, rel1, hg, fun w st2 hh2 y m2 H2 g2 rel2 rv2 => ?_, finx.step g1⟩, finx⟩
    refine hs x y v w m2 H2 st2 _ _ rel2 (rv1.grow rel1 g2) rv2 hh2 fun z st3 hz zz m3 H3 g3 rel3 rv3 => ?_
    split at hz
    · cases rv3
      refine ⟨true, rfl, ?_⟩
      rw [if_pos rfl]
      refine ⟨ρ, st3, m3, _, PX, ((rs.grow rel g1).grow rel1 g2).grow rel2 g3, rel3, hz, fun u st4 hu yu m4 H4 g4 rel4 rv4 => hs' y yu w u m4 H4 st4 _ _ rel4 ((rv2.grow rel2 g3).grow rel3 g4) rv4 hu fun v5 st5 h5 x5 m5 H5 g5 rel5 rv5 => ?_, ((finx.step g1).step g2).step g3⟩
      cases rv5 <;> first | exact h5.elim | skip
      exact ⟨_, rfl, fin _ st5 h5 m5 H5 ((((g1.trans g2).trans g3).trans g4).trans g5) rel5⟩
    · cases rv3
      refine ⟨false, rfl, ?_⟩
      rw [if_neg Bool.false_ne_true]
      exact ⟨_, rfl, fin _ st3 hz m3 H3 (((g1.trans g2).trans g3)) rel3⟩
    · exact hz.elim
theorem t_not (ha : JT X T W a t) : JT X T W (.UnaryOp .Not a pos) (sNotT t) :=
  PT.imp (pt_not ha) fun σ H Q h => by
    obtain ⟨ρ, st, m, P, PX, rs, rel, hf, fin, finx⟩ := h
    exact ⟨ρ, st, m, _, PX, rs, rel, hf, fun b st1 hb m1 H1 g1 rel1 => fin _ st1 hb m1 H1 g1 rel1, finx⟩
theorem t_and1 (ha : JT X T W a t) : JW X T W (.BoolOp .And [a] pos) t := pw_and1 ha
theorem t_or1 (ha : JT X T W a t) : JW X T W (.BoolOp .Or [a] pos) t := pw_or1 ha
theorem t_and (ha : JT X T W a t) (hb : JW X T W (.BoolOp .And (b :: rest) pos) u) : JW X T W (.BoolOp .And (a :: b :: rest) pos) (sAndT t u) :=
  PW.imp (pw_and ha hb) fun σ H Q h => by
    obtain ⟨ρ, st, m, P, PX, rs, rel, hf, fin, finx⟩ := h
    refine ⟨ρ, st, m, _, PX, rs, rel, hf, fun c st1 hc m1 H1 g1 rel1 => ?_, finx⟩
    cases c with
    | true => exact ⟨ρ, st1, m1, P, PX, rs.grow rel g1, rel1, hc, fin.step g1, finx.step g1⟩
    | false => exact fin _ st1 hc m1 H1 g1 rel1
theorem t_or (ha : JT X T W a t) (hb : JW X T W (.BoolOp .Or (b :: rest) pos) u) : JW X T W (.BoolOp .Or (a :: b :: rest) pos) (sOrT t u) :=
  PW.imp (pw_or ha hb) fun σ H Q h => by
    obtain ⟨ρ, st, m, P, PX, rs, rel, hf, fin, finx⟩ := h
    refine ⟨ρ, st, m, _, PX, rs, rel, hf, fun c st1 hc m1 H1 g1 rel1 => ?_, finx⟩
    cases c with
    | false => exact ⟨ρ, st1, m1, P, PX, rs.grow rel g1, rel1, hc, fin.step g1, finx.step g1⟩
    | true => exact fin _ st1 hc m1 H1 g1 rel1
theorem t_w (h : JW X T W a t) : JT X T W a t := h.pt
theorem w_not (ha : JE X T W a f) : JE X T W (.UnaryOp .Not a pos) (sNot f) :=
  PE.imp (pe_not ha) fun σ H Q h => by
    obtain ⟨ρ, st, m, P, PX, rs, rel, hf, fin, finx⟩ := h
    refine ⟨ρ, st, m, _, PX, rs, rel, hf, fun v st1 hv x m1 H1 g1 rel1 rv1 => ?_, finx⟩
    cases rv1 <;> first | exact hv.elim | skip
    exact ⟨_, rfl, fin _ st1 hv _ m1 H1 g1 rel1 (.bl _)⟩
theorem w_and1 (ha : JE X T W a f) : JE X T W (.BoolOp .And [a] pos) f := pe_one ha
theorem w_or1 (ha : JE X T W a f) : JE X T W (.BoolOp .Or [a] pos) f := pe_one ha
theorem w_andV (ha : JE X T W a f) (hb : JE X T W (.BoolOp .And (b :: rest) pos) g) : JE X T W (.BoolOp .And (a :: b :: rest) pos) (sAnd f g) :=
  PE.imp (pe_and ha hb) fun σ H Q h => by
    obtain ⟨ρ, st, m, P, PX, rs, rel, hf, fin, finx⟩ := h
    refine ⟨ρ, st, m, _, PX, rs, rel, hf, fun v st1 hv x m1 H1 g1 rel1 rv1 => ?_, finx⟩
    dsimp only at hv
    split at hv
    · cases rv1
      refine ⟨_, rfl, ?_⟩
      rw [if_pos rfl]
      exact ⟨ρ, st1, m1, P, PX, rs.grow rel g1, rel1, hv, fin.step g1, finx.step g1⟩
    · cases rv1
      refine ⟨_, rfl, ?_⟩
      rw [if_neg Bool.false_ne_true]
      exact fin _ st1 hv _ m1 H1 g1 rel1 (.bl _)
    · exact hv.elim
theorem w_orV (ha : JE X T W a f) (hb : JE X T W (.BoolOp .Or (b :: rest) pos) g) : JE X T W (.BoolOp .Or (a :: b :: rest) pos) (sOr f g) :=
  PE.imp (pe_or ha hb) fun σ H Q h => by
    obtain ⟨ρ, st, m, P, PX, rs, rel, hf, fin, finx⟩ := h
    refine ⟨ρ, st, m, _, PX, rs, rel, hf, fun v st1 hv x m1 H1 g1 rel1 rv1 => ?_, finx⟩
    dsimp only at hv
    split at hv
    · cases rv1
      refine ⟨_, rfl, ?_⟩
      rw [if_neg Bool.false_ne_true]
      exact ⟨ρ, st1, m1, P, PX, rs.grow rel g1, rel1, hv, fin.step g1, finx.step g1⟩
    · cases rv1
      refine ⟨_, rfl, ?_⟩
      rw [if_pos rfl]
      exact fin _ st1 hv _ m1 H1 g1 rel1 (.bl _)
    · exact hv.elim
theorem w_if {c : Expr} (hc : JT X T W c t) (ha : JE X T W a f) (hb : JE X T W b g) : JE X T W (.IfExp c a b pos) (sIf t f g) :=
  PE.imp (pe_ifExp hc ha hb) fun σ H Q h => by
    obtain ⟨ρ, st, m, P, PX, rs, rel, hf, fin, finx⟩ := h
    refine ⟨ρ, st, m, _, PX, rs, rel, hf, fun c st1 hc m1 H1 g1 rel1 => ?_, finx⟩
    cases c with
    | true =>
      rw [if_pos rfl]
      exact ⟨ρ, st1, m1, P, PX, rs.grow rel g1, rel1, hc, fin.step g1, finx.step g1⟩
    | false =>
      rw [if_neg Bool.false_ne_true]
      exact ⟨ρ, st1, m1, P, PX, rs.grow rel g1, rel1, hc, fin.step g1, finx.step g1⟩
end
end Sm
set_option Elab.async false
set_option linter.all false
set_option maxRecDepth 100000
set_option maxHeartbeats 1000000
namespace Sm
open PySem PySem.Spec PyProof.Rows L2
def sNil : SemA := fun _ st P _ => P [] st
def sCons (f : Sem) (g : SemA) : SemA := fun ρ st P PX => f ρ st (fun x st1 => g ρ st1 (fun xs st2 => P (x :: xs) st2) PX) PX
def sTup (f : SemA) : Sem := fun ρ st P PX => f ρ st (fun xs st1 => xs.length ≤ 1000 ∧ P (.tup xs) st1) PX
def sLst (f : SemA) : Sem := fun ρ st P PX => f ρ st (fun xs st1 => xs.length ≤ 1000 ∧ P (.lst xs) st1) PX
/-- a list that is a handle -/
def sNew (f : SemA) : Sem := fun ρ st P PX => f ρ st (fun xs st1 => xs.length ≤ 1000 ∧ P (.hd st1.length) (st1 ++ [.lst xs])) PX
theorem sz1000 {n : Nat} (h : n ≤ 1000) : n ≤ sizeLine := Nat.le_trans h (by decide)
section
variable {K : PySem.W.Frag} {T : List (Addr × Str)} {m : List Addr} {H : Hp} {st : Store} {p : Addr}
theorem Grow.hand {xs : HO} (r : Rel K T m st H) (h : H p = none) : Grow m H (m ++ [p]) (upd H p xs) :=
  ⟨⟨[p], rfl, fun a ha o e => by rw [List.mem_singleton.mp ha, h] at e; cases e⟩, fun a u e _ _ => by rw [upd_ne (ne_of_none e h)]; exact e, fun a u e nt => ⟨u, by rw [upd_ne (ne_of_none e h)]; exact e, nt⟩, fun a n ⟨u, e, q⟩ => ⟨u, by rw [upd_ne (ne_of_none e h)]; exact e, q⟩⟩
theorem Rel.handO {xs : HO} {l : Ob} (r : Rel K T m st H) (h : H p = none) (rs : ObR K (m ++ [p]) (upd H p xs) p l) : Rel K T (m ++ [p]) (st ++ [l]) (upd H p xs) := by
  have g : Grow m H (m ++ [p]) (upd H p xs) := Grow.hand r h
  have np := r.mem_ne h
  refine ⟨by simp [r.len], ?_, fun n a ob h1 h2 => ?_, r.tab.ext fun b u e => by rw [upd_ne (ne_of_none e h)]; exact e⟩
  · rw [List.nodup_append]
    refine ⟨r.nd, by simp, fun a ha b hb => ?_⟩
    rw [List.mem_singleton.mp hb]
    exact fun z => np (z ▸ ha)
  · by_cases hn : n < m.length
    · rw [List.getElem?_append_left hn] at h1
      rw [List.getElem?_append_left (by rw [← r.len]; exact hn)] at h2
      have q := r.ob n a ob h1 h2
      exact q.move r g fun u e => by rw [upd_ne (ne_of_none e h)]; exact e
    · have e : n = m.length := by
        have := (List.getElem?_eq_some_iff.mp h1).1
        simp at this
        omega
      subst e
      rw [List.getElem?_append_right (Nat.le_refl _)] at h1
      rw [List.getElem?_append_right (by rw [r.len]; exact Nat.le_refl _)] at h2
      simp [r.len] at h1 h2
      subst h1 h2
      exact rs
theorem Rel.hand {xs : List V} {l : List PV} (r : Rel K T m st H) (h : H p = none) (rs : RVs K m H xs l) : Rel K T (m ++ [p]) (st ++ [.lst l]) (upd H p (.lst xs)) :=
  r.handO h ⟨xs, upd_same, rs.grow r (Grow.hand r h)⟩
theorem get_hand (r : Rel K T m st H) : (m ++ [p])[st.length]? = some p := by
  rw [← r.len]
  simp
end
section
variable {X : Cx} {T : List (Addr × Str)} {W : WX} {pos : Pos} {e : Expr} {es : List Expr} {f : Sem} {g : SemA}
theorem a_nil : JA X T W [] sNil := PA.imp pa_nil fun σ H Q h => by
  obtain ⟨ρ, st, m, P, PX, rs, rel, hf, fin, finx⟩ := h
  exact fin [] st hf [] m H Grow.refl rel .nil
theorem a_cons (ha : JE X T W e f) (hb : JA X T W es g) (hs : starEach (e :: es) X.env = (false, eval e X.env) :: starEach es X.env := by rfl) : JA X T W (e :: es) (sCons f g) := PA.imp (pa_cons ha hb hs) fun σ H Q h => by
  obtain ⟨ρ, st, m, P, PX, rs, rel, hf, fin, finx⟩ := h
  exact ⟨ρ, st, m, _, PX, rs, rel, hf, fun v st1 hg x m1 H1 g1 rel1 rv1 => ⟨ρ, st1, m1, _, PX, rs.grow rel g1, rel1, hg, fun vs st2 hv xs m2 H2 g2 rel2 rv2 => fin _ st2 hv _ m2 H2 (g1.trans g2) rel2 (.cons (rv1.grow rel1 g2) rv2), finx.step g1⟩, finx⟩
theorem w_tup {k : Nat} (h : JA X T W es g) : JE X T W (.Tuple es k pos) (sTup g) := PE.imp (pe_tup h) fun σ H Q h => by
  obtain ⟨ρ, st, m, P, PX, rs, rel, hf, fin, finx⟩ := h
  refine ⟨ρ, st, m, _, PX, rs, rel, hf, fun vs st1 hv xs m1 H1 g1 rel1 rv1 => ⟨by rw [rv1.length]; exact sz1000 hv.1, fun p hp => ?_⟩, finx⟩
  exact fin _ st1 hv.2 _ m1 _ (g1.trans (Grow.new hp)) (rel1.new hp) (.tup (SqT.of upd_same) (rv1.grow rel1 (Grow.new hp)))
theorem w_lst (h : JA X T W es g) : JE X T W (.List es pos) (sLst g) := PE.imp (pe_lst h) fun σ H Q h => by
  obtain ⟨ρ, st, m, P, PX, rs, rel, hf, fin, finx⟩ := h
  refine ⟨ρ, st, m, _, PX, rs, rel, hf, fun vs st1 hv xs m1 H1 g1 rel1 rv1 => ⟨by rw [rv1.length]; exact sz1000 hv.1, fun p hp => ?_⟩, finx⟩
  exact fin _ st1 hv.2 _ m1 _ (g1.trans (Grow.new hp)) (rel1.new hp) (.lst (.inl ⟨.inl upd_same, rel1.mem_ne hp⟩) (rv1.grow rel1 (Grow.new hp)))
theorem w_new (h : JA X T W es g) : JE X T W (.List es pos) (sNew g) := PE.imp (pe_lst h) fun σ H Q h => by
  obtain ⟨ρ, st, m, P, PX, rs, rel, hf, fin, finx⟩ := h
  refine ⟨ρ, st, m, _, PX, rs, rel, hf, fun vs st1 hv xs m1 H1 g1 rel1 rv1 => ⟨by rw [rv1.length]; exact sz1000 hv.1, fun p hp => ?_⟩, finx⟩
  exact fin _ _ hv.2 _ (m1 ++ [p]) _ (g1.trans (Grow.hand rel1 hp)) (rel1.hand hp rv1) (.hd (get_hand rel1) ⟨_, upd_same, rfl⟩)
end
def oIx : SOp := fun x y st P => match x, y with
  | .tup l, .int i => match atI l i with
    | some v => P v st
    | none => False
  | .lst l, .int i => match atI l i with
    | some v => P v st
    | none => False
  | .hd n, .int i => match st[n]? with
    | some (.lst l) => match atI l i with
      | some v => P v st
      | none => False
    | _ => False
  | .str z, .int i => z.length ≤ 100000 ∧ match atI z.cps.toList i with
    | some c => P (.str ⟨#[c]⟩) st
    | none => False
  | _, _ => False
theorem RVs.at_ {K : PySem.W.Frag} {m : List Addr} {H : Hp} {xs : List V} {vs : List PV} {i : Int} {v : PV} (r : RVs K m H xs vs) (h : atI vs i = some v) : ∃ x, atI xs i = some x ∧ RV K m H x v := by
  unfold atI at h ⊢
  rw [r.length]
  cases e : ixN vs.length i with
  | none => rw [e] at h; cases h
  | some j =>
    rw [e] at h
    exact r.get h
theorem sz_str {n : Nat} (h : n ≤ 100000) : n ≤ sizeLine := Nat.le_trans h (by decide)
theorem os_ix {K : PySem.W.Frag} {T : List (Addr × Str)} : OpS K T (rIx K) oIx := fun x y v w m H st P Q rel rx ry h fin => by
  unfold oIx at h
  split at h
  · split at h
    · rename_i hv
      cases rx with
      | tup hq hs =>
        cases ry
        obtain ⟨x', e1, r1⟩ := hs.at_ hv
        exact .inr (.inl ⟨_, _, _, _, rfl, rfl, hq, e1, fin _ st h _ m H Grow.refl rel r1⟩)
    · exact h.elim
  · split at h
    · rename_i hv
      cases rx with
      | lst hq hs =>
        cases ry
        obtain ⟨x', e1, r1⟩ := hs.at_ hv
        exact .inl ⟨_, _, _, _, rfl, rfl, hq.sq, e1, fin _ st h _ m H Grow.refl rel r1⟩
    · exact h.elim
  · split at h
    · rename_i hst
      split at h
      · rename_i hv
        cases rx with
        | hd hn _ =>
          cases ry
          obtain ⟨xs, hq, hs⟩ := rel.ob _ _ _ hn hst
          obtain ⟨x', e1, r1⟩ := hs.at_ hv
          exact .inl ⟨_, _, _, _, rfl, rfl, SqL.of hq, e1, fin _ st h _ m H Grow.refl rel r1⟩
      · exact h.elim
    · exact h.elim
  · obtain ⟨hz, h⟩ := h
    split at h
    · rename_i hv
      cases rx
      cases ry
      exact .inr (.inr ⟨_, _, _, rfl, rfl, sz_str hz, hv, fin _ st h _ m H Grow.refl rel (.str _)⟩)
    · exact h.elim
  · exact h.elim
/-- a call of a builtin, by values -/
abbrev SCall := List PV → Store → PK → Prop
def CallS (K : PySem.W.Frag) (T : List (Addr × Str)) (r : List V → Hp → VK → Prop) (o : SCall) : Prop := ∀ (xs : List V) (vs : List PV) (m : List Addr) (H : Hp) (st : Store) (P : PK) (Q : VK), Rel K T m st H → RVs K m H xs vs → o vs st P → Fin K T m H P Q → r xs H Q
def sCB (o : SCall) (g : SemA) : Sem := fun ρ st P PX => g ρ st (fun vs st1 => o vs st1 P) PX
theorem tCB_of {K : PySem.W.Frag} {T : List (Addr × Str)} {W : WX} {r : List V → Hp → VK → Prop} {o : SCall} {g : SemA} (hs : CallS K T r o) {σ : L2.St} {H : Hp} {Q : VK} (h : tE K T W (sCB o g) σ H Q) : tCB r (tA K T W g) σ H Q := by
  obtain ⟨ρ, st, m, P, PX, rs, rel, hf, fin, finx⟩ := h
  exact ⟨ρ, st, m, _, PX, rs, rel, hf, fun vs st1 hv xs m1 H1 g1 rel1 rv1 => hs xs vs m1 H1 st1 P Q rel1 rv1 hv (fin.step g1), finx⟩
section
variable {X : Cx} {T : List (Addr × Str)} {W : WX} {p pos : Pos} {x : Str} {e : Expr} {es : List Expr} {f : Sem} {g : SemA} {id Ty : String} {r : List V → Hp → VK → Prop} {o : SCall}
theorem w_callB (hc : CallR X (.builtin id) r) (hs : CallS X.K T r o) (hg : Gl X x) (hm : X.mg x = none) (hv : bootBuiltins x = some (.builtin id)) (ha : JA X T W (e :: es) g) (hn : x ≠ "__name__" := by decide) (hdb : (x == ("__debug__" : Str)) = false := by decide)
    (he : starEach (e :: es) X.env = (false, eval e X.env) :: starEach es X.env := by rfl) (hpl : (backTo pos (starEach es X.env)).any (·.1) = false := by rfl) : JE X T W (.Call (.Name x p) (e :: es) [] pos) (sCB o g) :=
  PE.imp (pe_callB hc hg hm hv ha hn hdb he hpl) fun _ _ _ h => tCB_of hs h
theorem w_callTy (hc : CallR X (.type Ty) r) (hs : CallS X.K T r o) (hg : Gl X x) (hm : X.mg x = none) (hv : bootBuiltins x = some (.type Ty)) (ha : JA X T W (e :: es) g) (hn : x ≠ "__name__" := by decide) (hdb : (x == ("__debug__" : Str)) = false := by decide)
    (he : starEach (e :: es) X.env = (false, eval e X.env) :: starEach es X.env := by rfl) (hpl : (backTo pos (starEach es X.env)).any (·.1) = false := by rfl) : JE X T W (.Call (.Name x p) (e :: es) [] pos) (sCB o g) :=
  PE.imp (pe_callTy hc hg hm hv ha hn hdb he hpl) fun _ _ _ h => tCB_of hs h
end
/-- len -/
def oLen : SCall := fun vs st P => match vs with
  | [.tup l] => P (.int l.length) st
  | [.lst l] => P (.int l.length) st
  | [.hd n] => match st[n]? with
    | some (.lst l) => P (.int l.length) st
    | _ => False
  | [.str z] => z.length ≤ 100000 ∧ P (.int z.length) st
  | _ => False
theorem CallR.or {X : Cx} {f : Value} {r r' : List V → Hp → VK → Prop} (h : CallR X f r) (h' : CallR X f r') : CallR X f (fun xs H Q => r xs H Q ∨ r' xs H Q) := by
  intro pins s σ H xs us Q I rx q
  rcases q with q | q
  · exact h pins s σ H xs us Q I rx q
  · exact h' pins s σ H xs us Q I rx q
theorem RVs.one {K : PySem.W.Frag} {m : List Addr} {H : Hp} {xs : List V} {v : PV} (r : RVs K m H xs [v]) : ∃ x, xs = [x] ∧ RV K m H x v := by
  cases r with
  | cons a b => cases b; exact ⟨_, rfl, a⟩
theorem RVs.two {K : PySem.W.Frag} {m : List Addr} {H : Hp} {xs : List V} {v w : PV} (r : RVs K m H xs [v, w]) : ∃ x y, xs = [x, y] ∧ RV K m H x v ∧ RV K m H y w := by
  cases r with
  | cons a b =>
    obtain ⟨y, rfl, q⟩ := b.one
    exact ⟨_, y, rfl, a, q⟩
theorem cs_len {K : PySem.W.Frag} {T : List (Addr × Str)} : CallS K T (fun xs H Q => (∃ p ys, xs = [.ref p] ∧ (SqL K H p ys ∨ SqT K H p ys) ∧ Q (.int ys.length) H) ∨ (∃ z, xs = [.str z] ∧ z.length ≤ sizeLine ∧ Q (.int z.length) H)) oLen := fun xs vs m H st P Q rel rv h fin => by
  unfold oLen at h
  split at h
  · obtain ⟨x, rfl, r⟩ := rv.one
    cases r with
    | tup hq hs => exact .inl ⟨_, _, rfl, .inr hq, fin _ st h _ m H Grow.refl rel (by rw [hs.length]; exact .int _)⟩
  · obtain ⟨x, rfl, r⟩ := rv.one
    cases r with
    | lst hq hs => exact .inl ⟨_, _, rfl, .inl hq.sq, fin _ st h _ m H Grow.refl rel (by rw [hs.length]; exact .int _)⟩
  · split at h
    · rename_i hst
      obtain ⟨x, rfl, r⟩ := rv.one
      cases r with
      | hd hn _ =>
        obtain ⟨xs, hq, hs⟩ := rel.ob _ _ _ hn hst
        exact .inl ⟨_, _, rfl, .inl (SqL.of hq), fin _ st h _ m H Grow.refl rel (by rw [hs.length]; exact .int _)⟩
    · exact h.elim
  · obtain ⟨x, rfl, r⟩ := rv.one
    cases r
    exact .inr ⟨_, rfl, sz_str h.1, fin _ st h.2 _ m H Grow.refl rel (.int _)⟩
  · exact h.elim
def oAbs : SCall := fun vs st P => match vs with
  | [.int i] => P (.int (if i < 0 then -i else i)) st
  | _ => False
theorem cs_abs {K : PySem.W.Frag} {T : List (Addr × Str)} : CallS K T (fun xs H Q => ∃ i, xs = [.int i] ∧ Q (.int (if i < 0 then -i else i)) H) oAbs := fun xs vs m H st P Q rel rv h fin => by
  unfold oAbs at h
  split at h
  · obtain ⟨x, rfl, r⟩ := rv.one
    cases r
    exact ⟨_, rfl, fin _ st h _ m H Grow.refl rel (.int _)⟩
  · exact h.elim
def oInt : SCall := fun vs st P => match vs with
  | [.int i] => P (.int i) st
  | [.bl b] => P (.int (if b then 1 else 0)) st
  | _ => False
theorem cs_int {K : PySem.W.Frag} {T : List (Addr × Str)} : CallS K T (fun xs H Q => (∃ i, xs = [.int i] ∧ Q (.int i) H) ∨ ∃ k, xs = [.bl k] ∧ Q (.int (if k then 1 else 0)) H) oInt := fun xs vs m H st P Q rel rv h fin => by
  unfold oInt at h
  split at h
  · obtain ⟨x, rfl, r⟩ := rv.one
    cases r
    exact .inl ⟨_, rfl, fin _ st h _ m H Grow.refl rel (.int _)⟩
  · obtain ⟨x, rfl, r⟩ := rv.one
    cases r
    exact .inr ⟨_, rfl, fin _ st h _ m H Grow.refl rel (.int _)⟩
  · exact h.elim
def oGcd : SCall := fun vs st P => match vs with
  | [.int i, .int j] => P (.int ((Nat.gcd i.natAbs j.natAbs : Nat) : Int)) st
  | _ => False
/-- type(x) -/
def tyName : PV → Option String
  | .non => some "NoneType"
  | .bl _ => some "bool"
  | .int _ => some "int"
  | .str _ => some "str"
  | .tup _ => some "tuple"
  | .lst _ => some "list"
  | .hd _ => some "list"
  | .dh _ => some "dict"
  | _ => none
def oType : SCall := fun vs st P => match vs with
  | [v] => match tyName v with
    | some n => P (.ty n) st
    | none => False
  | _ => False
/-- a dict, however it stands -/
def DctAt (H : Hp) (a : Addr) : Prop := Kd H a 2
inductive TyC (K : PySem.W.Frag) (H : Hp) : V → String → Prop where
  | b {x : V} {n : String} (h : TyB K H x n) : TyC K H x n
  | d {a : Addr} (h : DctAt H a) : TyC K H (.ref a) "dict"
def rTypC (K : PySem.W.Frag) : List V → Hp → VK → Prop := fun xs H Q => ∃ x T, xs = [x] ∧ TyC K H x T ∧ Q (.ty T) H
theorem DctAt.is {X : Cx} {pins : List (Addr × Obj)} {σ : L2.St} {H : Hp} {s : Shared} {a : Addr} (I : Inv X pins σ H s) (h : DctAt H a) : s.TypeIs (.ref a) "dict" := by
  obtain ⟨o, ho, hk⟩ := h
  rcases kOf2 hk with ⟨k, rfl⟩ | ⟨k, rfl⟩ | ⟨b, k, rfl⟩ | ⟨b, k, rfl⟩
  · obtain ⟨_, _, vs, _, p⟩ := (show ObjOk X.prog X.w H s.heap a (.dK k) from I.hok a _ ho)
    exact p.typeIs
  · obtain ⟨_, _, xs, _, o, es, ep, e1, e2, _⟩ := (show ObjOk X.prog X.w H s.heap a (.dT k) from I.hok a _ ho)
    exact ⟨o, e1, e2.1⟩
  · obtain ⟨_, _, _, vs, _, p⟩ := (show ObjOk X.prog X.w H s.heap a (.frz b (.dK k)) from I.hok a _ ho)
    exact p.typeIs
  · obtain ⟨_, _, _, xs, _, o, es, ep, e1, e2, _⟩ := (show ObjOk X.prog X.w H s.heap a (.frz b (.dT k)) from I.hok a _ ho)
    exact ⟨o, e1, e2.1⟩
theorem call_typeC {X : Cx} : CallR X (.type "type") (rTypC X.K) := by
  intro pins s σ H xs us Q I r h
  obtain ⟨x, T, rfl, t, q⟩ := h
  obtain ⟨u, rfl, rx⟩ := vals1 r
  cases t with
  | b t => exact call_type_of (t.is I rx) t.nb ⟨.ty T, H, I, rfl, q⟩
  | @d a t =>
    cases (show u = Value.ref a from rx)
    exact call_type_of (t.is I) (by decide +kernel) ⟨.ty _, H, I, rfl, q⟩
theorem tyB_of {K : PySem.W.Frag} {T : List (Addr × Str)} {m : List Addr} {H : Hp} {st : Store} {x : V} {v : PV} {n : String} (rel : Rel K T m st H) (r : RV K m H x v) (e : tyName v = some n) : TyC K H x n := by
  cases r with
  | non => cases e; exact .b .non
  | bl b => cases e; exact .b (.bl b)
  | int b => cases e; exact .b (.int b)
  | str b => cases e; exact .b (.str b)
  | ty b => cases e
  | tup h hs => cases e; exact .b (.tup h)
  | lst h hs => cases e; exact .b (.lst h.sq)
  | @hd a k h q =>
    cases e
    obtain ⟨o, q, hk⟩ := q
    obtain ⟨xs, rfl⟩ := kOf1 hk
    exact .b (.lst (SqL.of q))
  | @dh a k h q =>
    cases e
    exact .d q
  | oh h q => cases e
  | adr a => cases e
  | exc h hv => cases e
theorem cs_type {K : PySem.W.Frag} {T : List (Addr × Str)} : CallS K T (rTypC K) oType := fun xs vs m H st P Q rel rv h fin => by
  unfold oType at h
  split at h
  · split at h
    · rename_i hn
      obtain ⟨x, rfl, r⟩ := rv.one
      exact ⟨_, _, rfl, tyB_of rel r hn, fin _ st h _ m H Grow.refl rel (.ty _)⟩
    · exact h.elim
  · exact h.elim
/-- all of a list of truths -/
def allB : List PV → Option Bool
  | [] => some true
  | .bl b :: r => (allB r).map (b && ·)
  | _ => none
theorem allB_of {K : PySem.W.Frag} {m : List Addr} {H : Hp} : ∀ {xs : List V} {l : List PV} {b : Bool}, RVs K m H xs l → allB l = some b → ∃ bs : List Bool, xs = bs.map V.bl ∧ bs.all id = b
  | _, _, b, .nil, e => by cases e; exact ⟨[], rfl, rfl⟩
  | _, _, b, .cons (d := v) (ds := ds) r rs, e => by
    cases r with
    | bl c =>
      simp only [allB] at e
      cases q : allB ds with
      | none => rw [q] at e; cases e
      | some b2 =>
        rw [q] at e
        simp only [Option.map_some, Option.some.injEq] at e
        obtain ⟨bs, e1, e2⟩ := allB_of rs q
        exact ⟨c :: bs, by rw [e1]; rfl, by rw [List.all_cons, e2, ← e]; rfl⟩
    | _ => cases e
def oMax : SCall := fun vs st P => match vs with
  | [.int i, .int j] => P (.int (if j > i then j else i)) st
  | _ => False
def oMin : SCall := fun vs st P => match vs with
  | [.int i, .int j] => P (.int (if j < i then j else i)) st
  | _ => False
theorem cs_max {K : PySem.W.Frag} {T : List (Addr × Str)} : CallS K T (fun xs H Q => ∃ i j, xs = [.int i, .int j] ∧ Q (.int (if j > i then j else i)) H) oMax := fun xs vs m H st P Q rel rv h fin => by
  unfold oMax at h
  split at h
  · obtain ⟨x, y, rfl, r1, r2⟩ := rv.two
    cases r1
    cases r2
    exact ⟨_, _, rfl, fin _ st h _ m H Grow.refl rel (.int _)⟩
  · exact h.elim
theorem cs_min {K : PySem.W.Frag} {T : List (Addr × Str)} : CallS K T (fun xs H Q => ∃ i j, xs = [.int i, .int j] ∧ Q (.int (if j < i then j else i)) H) oMin := fun xs vs m H st P Q rel rv h fin => by
  unfold oMin at h
  split at h
  · obtain ⟨x, y, rfl, r1, r2⟩ := rv.two
    cases r1
    cases r2
    exact ⟨_, _, rfl, fin _ st h _ m H Grow.refl rel (.int _)⟩
  · exact h.elim
/-- tuple(xs) -/
def oTuple : SCall := fun vs st P => match vs with
  | [.lst l] => P (.tup l) st
  | [.tup l] => P (.tup l) st
  | [.hd n] => match st[n]? with
    | some (.lst l) => P (.tup l) st
    | _ => False
  | _ => False
theorem cs_tuple {K : PySem.W.Frag} {T : List (Addr × Str)} : CallS K T (fun xs H Q => ∃ p ys, xs = [.ref p] ∧ ((SqL K H p ys ∧ ∀ l, H l = none → Q (.ref l) (upd H l (.tup ys))) ∨ (SqT K H p ys ∧ Q (.ref p) H))) oTuple := fun xs vs m H st P Q rel rv h fin => by
  unfold oTuple at h
  split at h
  · obtain ⟨x, rfl, r⟩ := rv.one
    cases r with
    | lst hq hs => exact ⟨_, _, rfl, .inl ⟨hq.sq, fun l hl => fin _ st h _ m _ (Grow.new hl) (rel.new hl) (.tup (SqT.of upd_same) (hs.grow rel (Grow.new hl)))⟩⟩
  · obtain ⟨x, rfl, r⟩ := rv.one
    cases r with
    | tup hq hs => exact ⟨_, _, rfl, .inr ⟨hq, fin _ st h _ m H Grow.refl rel (.tup hq hs)⟩⟩
  · split at h
    · rename_i hst
      obtain ⟨x, rfl, r⟩ := rv.one
      cases r with
      | hd hn _ =>
        obtain ⟨xs, hq, hs⟩ := rel.ob _ _ _ hn hst
        exact ⟨_, _, rfl, .inl ⟨SqL.of hq, fun l hl => fin _ st h _ m _ (Grow.new hl) (rel.new hl) (.tup (SqT.of upd_same) (hs.grow rel (Grow.new hl)))⟩⟩
    · exact h.elim
  · exact h.elim
section
variable {X : Cx} {T : List (Addr × Str)} {W : WX} {p pos : Pos} {a b e : Expr} {es : List Expr} {f g' : Sem} {g : SemA}
theorem w_ix (ha : JE X T W a f) (hb : JE X T W b g') (hpl : PlainIx b := by exact fun _ _ => rfl) : JE X T W (.Subscript a b pos) (sOp oIx f g') := PE.imp (pe_ix ix_seq ha hb hpl) fun _ _ _ h => tOp_of os_ix h
end
end Sm
set_option Elab.async false
set_option linter.all false
set_option maxRecDepth 100000
set_option maxHeartbeats 1000000
namespace Sm
open PySem PySem.Spec PyProof.Rows L2
abbrev SpecF := List PV → Store → PK → XP → Prop
def spOf (K : PySem.W.Frag) (T : List (Addr × Str)) (S : SpecF) : Sp := fun vs H Q E => ∃ pvs st m P PX, RVs K m H vs pvs ∧ Rel K T m st H ∧ S pvs st P PX ∧ Fin K T m H P Q ∧ FinX K T m H PX E
/-- nothing is under way of being shown, where that is asked for -/
def Gu (gd : Bool) (A : Around) : Prop := gd = true → A.guards = some []
theorem Gu.no {A : Around} : Gu false A := nofun
theorem Gu.le {gd gd' : Bool} {A : Around} (h : Gu gd' A) (i : gd = true → gd' = true) : Gu gd A := fun e => h (i e)
structure FnG (P : Program) (w : World) (K : PySem.W.Frag) (T : List (Addr × Str)) (mg : Str → Option Value) (base : Heap) (gd : Bool) (k : Nat) (f : Addr) (fd : FuncData) (ps : List Str) (S : SpecF) : Prop where
  len : ∀ pvs st Q PX, S pvs st Q PX → pvs.length = ps.length
  run : ∀ (A : Around) (outer : List PySem.Env) (s : Shared) (H : Hp) (args : Args) (us : List Value) (vs : List V) (Q : VK) (E : XK), Room k A → Gu gd A → Env0 P w K mg base A outer s H →
    BindsTo s fd args (ps.zip us) → Vals vs us → spOf K T S vs H Q E → codeAny (model P w) A (.call (.ref f) args) (CR (L2.CX P w) outer P w H s Q E) s
theorem FnG.mono {P : Program} {w : World} {K : PySem.W.Frag} {T : List (Addr × Str)} {mg : Str → Option Value} {base : Heap} {gd : Bool} {j k : Nat} {f : Addr} {fd : FuncData} {ps : List Str} {S : SpecF} (F : FnG P w K T mg base gd j f fd ps S) (h : j ≤ k) : FnG P w K T mg base gd k f fd ps S :=
  ⟨F.len, fun A o s H a u v Q E hr => F.run A o s H a u v Q E (hr.mono h)⟩
theorem RVs.len2 {K : PySem.W.Frag} {m : List Addr} {H : Hp} {xs : List V} {vs : List PV} {us : List Value} (r : RVs K m H xs vs) (q : Vals xs us) : us.length = vs.length := by rw [← q.length, r.length]
def sCall (S : SpecF) (dv : List PV) (g : SemA) : Sem := fun ρ st P PX => g ρ st (fun vs st1 => S (vs ++ dv) st1 P PX) PX
section
variable {X : Cx} {T : List (Addr × Str)} {W : WX} {gd : Bool} {k : Nat} {f : Addr} {fd : FuncData} {ps : List Str} {S : SpecF} {dvs : List V} {ds : List Value} {dv : List PV} {x : Str} {p pos : Pos} {e : Expr} {es : List Expr} {g : SemA}
theorem run_g {pins : List (Addr × Obj)} {σ : L2.St} {H : Hp} {s : Shared} {Q : VK} {us : List Value} {vs : List V} (F : FnG X.prog X.w X.K T X.mg X.base gd k f fd ps S) (hr : Room k X.A) (hgd : Gu gd X.A) (hb : Binds X.K fd ps ds) (hd : Vals dvs ds)
    (tk : Takes X W) (I : Inv X pins σ H s) (r : Vals vs us) (h : spOf X.K T S (vs ++ dvs) H Q (fun c d H' => W c d σ H')) : wpAny (model X.prog X.w) X.A (call (.ref f) us) (EP X pins σ Q) X.xe s := by
  have r2 := r.append hd
  have hl : (us ++ ds).length = ps.length := by
    obtain ⟨pvs, st, m, P, PX, rv, _, hS, _⟩ := id h
    rw [rv.len2 r2, F.len _ _ _ _ hS]
  have c := F.run X.A X.stack s H ⟨us, []⟩ (us ++ ds) (vs ++ dvs) Q _ hr hgd I.env0 (hb s us I.kIn hl) r2 h
  refine wpAny_call (codeAny_mono c fun res s' hq => ?_)
  cases res with
  | error ex => exact passAt tk σ pins H s ex s' I hq
  | ok fl =>
    cases fl with
    | ret u => exact I.after hq
    | _ => exact False.elim hq
theorem w_call (F : FnG X.prog X.w X.K T X.mg X.base gd k f fd ps S) (hr : Room k X.A) (hgd : Gu gd X.A) (hg : Gl X x) (hm : X.mg x = some (.ref f)) (hk : PySem.W.keepIn X.K (.ref f) = true) (hb : Binds X.K fd ps ds) (hd : Vals dvs ds)
    (hdv : ∀ m H, RVs X.K m H dvs dv) (tk : Takes X W) (ha : JA X T W (e :: es) g) (hdb : (x == ("__debug__" : Str)) = false := by decide) (he : starEach (e :: es) X.env = (false, eval e X.env) :: starEach es X.env := by rfl)
    (hpl : (backTo pos (starEach es X.env)).any (·.1) = false := by rfl) : JE X T W (.Call (.Name x p) (e :: es) [] pos) (sCall S dv g) := by
  refine ⟨fun pins s σ H Q I h => ?_⟩
  obtain ⟨ρ, st, m, P, PX, rs, rel, hf, fin, finx⟩ := h
  refine wpAny_Call_Name_kw (ld_glob I hg hm ?_ hdb)
  have h1 : tA X.K T W g σ H (fun xs H1 => spOf X.K T S (xs ++ dvs) H1 Q (fun c d H' => W c d σ H')) :=
    ⟨ρ, st, m, _, PX, rs, rel, hf, fun vs st1 hv xs m1 H1 g1 rel1 rv1 => ⟨vs ++ dv, st1, m1, P, PX, rv1.append (hdv m1 H1), rel1, hv, fin.step g1, finx.step g1⟩, finx⟩
  exact PySem.W.callWith_K (h₀ := X.base) I.ok.mod.kin hk (thn (ha.run pos pins s σ H _ I h1) fun us s1 ⟨vs, H1, I1, r, q⟩ => ⟨I1.kIn, run_g F hr hgd hb hd tk I1 r q⟩) he hpl
end
structure EndP where
  nx : Env → Store → Prop
  rt : PV → Store → Prop
  bk : Env → Store → Prop
  ct : Env → Store → Prop
  ex : Exn → Env → Store → Prop
abbrev SemS := EndP → Env → Store → Prop
def FinE (K : PySem.W.Frag) (T : List (Addr × Str)) (m : List Addr) (H : Hp) (P : Env → Store → Prop) (Q : L2.St → Hp → Prop) : Prop := ∀ ρ st', P ρ st' → ∀ σ m' H', Grow m H m' H' → Rel K T m' st' H' → RS K m' H' σ ρ → Q σ H'
structure FinS (K : PySem.W.Frag) (T : List (Addr × Str)) (W : WX) (m : List Addr) (H : Hp) (D : EndP) (D' : Ends) : Prop where
  nx : FinE K T m H D.nx D'.nx
  rt : Fin K T m H D.rt D'.rt
  bk : FinE K T m H D.bk D'.bk
  ct : FinE K T m H D.ct D'.ct
  ex : ∀ e ρ st', D.ex e ρ st' → ∀ cls d σ m' H', Grow m H m' H' → Rel K T m' st' H' → RS K m' H' σ ρ → ExR K m' H' cls d e → W cls d σ H'
theorem FinE.step {K : PySem.W.Frag} {T : List (Addr × Str)} {m m' : List Addr} {H H' : Hp} {P : Env → Store → Prop} {Q : L2.St → Hp → Prop} (g : Grow m H m' H') (f : FinE K T m H P Q) : FinE K T m' H' P Q := fun ρ st' p σ m1 H1 g1 => f ρ st' p σ m1 H1 (g.trans g1)
theorem FinS.step {K : PySem.W.Frag} {T : List (Addr × Str)} {W : WX} {m m' : List Addr} {H H' : Hp} {D : EndP} {D' : Ends} (g : Grow m H m' H') (f : FinS K T W m H D D') : FinS K T W m' H' D D' :=
  ⟨f.nx.step g, f.rt.step g, f.bk.step g, f.ct.step g, fun e ρ st' p cls d σ m1 H1 g1 => f.ex e ρ st' p cls d σ m1 H1 (g.trans g1)⟩
theorem FinS.finx {K : PySem.W.Frag} {T : List (Addr × Str)} {W : WX} {m : List Addr} {H : Hp} {D : EndP} {D' : Ends} {σ : L2.St} {ρ : Env} {st : Store} (f : FinS K T W m H D D') (rel : Rel K T m st H) (rs : RS K m H σ ρ) : FinX K T m H (fun e st' => D.ex e ρ st') (fun c d H' => W c d σ H') :=
  fun e st' p cls d m' H' g rel' ex => f.ex e ρ st' p cls d σ m' H' g rel' (rs.grow rel g) ex
def tS (K : PySem.W.Frag) (T : List (Addr × Str)) (W : WX) (f : SemS) : TS := fun D' σ H => ∃ ρ st m D, RS K m H σ ρ ∧ Rel K T m st H ∧ f D ρ st ∧ FinS K T W m H D D'
abbrev JS (X : Cx) (T : List (Addr × Str)) (W : WX) (s : Stmt) (f : SemS) : Prop := L2.PS X s (tS X.K T W f)
abbrev JSs (X : Cx) (T : List (Addr × Str)) (W : WX) (s : List Stmt) (f : SemS) : Prop := PSs X s (tS X.K T W f)
theorem PS.imp {X : Cx} {e : Stmt} {t t' : TS} (h : L2.PS X e t) (i : ∀ D σ H, t' D σ H → t D σ H) : L2.PS X e t' := ⟨fun pins s σ H D I q => h.run pins s σ H D I (i D σ H q)⟩
theorem PSs.imp {X : Cx} {e : List Stmt} {t t' : TS} (h : PSs X e t) (i : ∀ D σ H, t' D σ H → t D σ H) : PSs X e t' := ⟨fun pins s σ H D I q => h.run pins s σ H D I (i D σ H q)⟩
def sSkip : SemS := fun D ρ st => D.nx ρ st
def sSeq (f g : SemS) : SemS := fun D ρ st => f { D with nx := g D } ρ st
def sAsg (f : Sem) (i : Nat) : SemS := fun D ρ st => f ρ st (fun v st1 => D.nx (ρ.set i (some v)) st1) (fun e st1 => D.ex e ρ st1)
def sDrop (f : Sem) : SemS := fun D ρ st => f ρ st (fun _ st1 => D.nx ρ st1) (fun e st1 => D.ex e ρ st1)
def sRet (f : Sem) : SemS := fun D ρ st => f ρ st D.rt (fun e st1 => D.ex e ρ st1)
def sIfS (c : SemT) (f g : SemS) : SemS := fun D ρ st => c ρ st (fun b st1 => match b with
  | true => f D ρ st1
  | false => g D ρ st1) (fun e st1 => D.ex e ρ st1)
section
variable {X : Cx} {T : List (Addr × Str)} {W : WX} {pos : Pos} {s : Stmt} {ss : List Stmt} {e c : Expr} {f : Sem} {t u : SemS} {tc : SemT} {a b : List Stmt}
theorem z_nil : JSs X T W [] sSkip := PSs.imp pss_nil fun D σ H h => by
  obtain ⟨ρ, st, m, D', rs, rel, hf, fin⟩ := h
  exact fin.nx ρ st hf σ m H Grow.refl rel rs
theorem z_cons (h1 : JS X T W s t) (h2 : JSs X T W ss u) : JSs X T W (s :: ss) (sSeq t u) := PSs.imp (pss_cons h1 h2) fun D σ H h => by
  obtain ⟨ρ, st, m, D', rs, rel, hf, fin⟩ := h
  exact ⟨ρ, st, m, _, rs, rel, hf, ⟨fun ρ1 st1 h1 σ1 m1 H1 g1 rel1 rs1 => ⟨ρ1, st1, m1, D', rs1, rel1, h1, fin.step g1⟩, fin.rt, fin.bk, fin.ct, fin.ex⟩⟩
theorem z_one (h1 : JS X T W s t) : JSs X T W [s] t := pss_one h1
theorem s_asg {i : Nat} {x : Str} {pos' : Pos} (hN : X.N.Nodup) (hi : X.N[i]? = some x) (hx : Loc X.env.scope x) (he : JE X T W e f) (hs : swapsWith e (some (.Name x pos')) pos.line X.env = pure false := by rfl)
    (hf : X.fn x = true ∨ X.env.scope.names.lookup x = some .local := by first | exact .inl rfl | exact .inr rfl | assumption) : JS X T W (.Assign [.Name x pos'] e pos) (sAsg f i) := PS.imp (ps_set hN hi hx he hs hf) fun D σ H h => by
  obtain ⟨ρ, st, m, D', rs, rel, hf, fin⟩ := h
  exact ⟨ρ, st, m, _, _, rs, rel, hf, fun v st1 hv y m1 H1 g1 rel1 rv1 => fin.nx _ st1 hv _ m1 H1 g1 rel1 ((rs.grow rel g1).set i rv1), fin.finx rel rs⟩
theorem s_drop (he : JE X T W e f) (hs : swapsWith e none pos.line X.env = pure false := by rfl) : JS X T W (.Expr e pos) (sDrop f) := PS.imp (ps_expr he hs) fun D σ H h => by
  obtain ⟨ρ, st, m, D', rs, rel, hf, fin⟩ := h
  exact ⟨ρ, st, m, _, _, rs, rel, hf, fun v st1 hv y m1 H1 g1 rel1 rv1 => fin.nx _ st1 hv _ m1 H1 g1 rel1 (rs.grow rel g1), fin.finx rel rs⟩
theorem s_ret (he : JE X T W e f) : JS X T W (.Return (some e) pos) (sRet f) := PS.imp (ps_ret he) fun D σ H h => by
  obtain ⟨ρ, st, m, D', rs, rel, hf, fin⟩ := h
  exact ⟨ρ, st, m, _, _, rs, rel, hf, fin.rt, fin.finx rel rs⟩
theorem s_if (hc : JT X T W c tc) (ha : JSs X T W a t) (hb : JSs X T W b u) : JS X T W (.If c a b pos) (sIfS tc t u) := PS.imp (ps_if hc ha hb) fun D σ H h => by
  obtain ⟨ρ, st, m, D', rs, rel, hf, fin⟩ := h
  refine ⟨ρ, st, m, _, _, rs, rel, hf, fun v st1 hv m1 H1 g1 rel1 => ?_, fin.finx rel rs⟩
  cases v with
  | true =>
    rw [if_pos rfl]
    exact ⟨ρ, st1, m1, D', rs.grow rel g1, rel1, hv, fin.step g1⟩
  | false =>
    rw [if_neg Bool.false_ne_true]
    exact ⟨ρ, st1, m1, D', rs.grow rel g1, rel1, hv, fin.step g1⟩
/-- a, b = x, y -/
def sPar (i j : Nat) (f g : Sem) : SemS := fun D ρ st => f ρ st (fun v st1 => g ρ st1 (fun w st2 => D.nx ((ρ.set i (some v)).set j (some w)) st2) (fun e st2 => D.ex e ρ st2)) (fun e st1 => D.ex e ρ st1)
theorem s_par {i j : Nat} {x y : Str} {a b : Expr} {f g : Sem} {px py pt : Pos} {kt k2 : Nat} {pt2 : Pos} (hc : X.calm = true) (hN : X.N.Nodup) (hi : X.N[i]? = some x) (hj : X.N[j]? = some y) (hij : i ≠ j)
    (hx : X.env.scope.names.lookup x = some .local) (hy : X.env.scope.names.lookup y = some .local) (ha : JE X T W a f) (hb : JE X T W b g)
    (hw : swappedStores [.Tuple [.Name x px, .Name y py] kt pt] (.Tuple [a, b] k2 pt2) X.env = pure (some [x, y]) := by rfl)
    (hs : swapsWithSole [.Tuple [.Name x px, .Name y py] kt pt] (.Tuple [a, b] k2 pt2) pos.line X.env = pure false := by rfl)
    (h1 : starEach [a, b] X.env = (false, eval a X.env) :: starEach [b] X.env := by rfl) (h2 : starEach [b] X.env = (false, eval b X.env) :: starEach [] X.env := by rfl) :
    JS X T W (.Assign [.Tuple [.Name x px, .Name y py] kt pt] (.Tuple [a, b] k2 pt2) pos) (sPar i j f g) := PS.imp (ps_par hc hN hi hj hij hx hy (pa_cons ha (pa_cons hb pa_nil h2) h1) hw hs) fun D σ H h => by
  obtain ⟨ρ, st, m, D', rs, rel, hf, fin⟩ := h
  refine ⟨ρ, st, m, _, _, rs, rel, hf, fun v st1 hv xv m1 H1 g1 rel1 rv1 => ?_, fin.finx rel rs⟩
  refine ⟨ρ, st1, m1, _, _, rs.grow rel g1, rel1, hv, fun w st2 hw yv m2 H2 g2 rel2 rv2 => ?_, (fin.finx rel rs).step g1⟩
  exact ⟨xv, yv, rfl, fin.nx _ st2 hw _ m2 H2 (g1.trans g2) rel2 ((((rs.grow rel g1).grow rel1 g2).set i (rv1.grow rel1 g2)).set j rv2)⟩
/-- while -/
def sWhile (c : SemT) (t : SemS) : SemS := fun D ρ st => ∃ Wv : Nat → Env → Store → Prop, (∃ n, Wv n ρ st) ∧ ∀ n ρ st, Wv n ρ st →
  c ρ st (fun b st1 => match b with
    | true => t { D with nx := fun ρ' st' => ∃ n', n' < n ∧ Wv n' ρ' st', ct := fun ρ' st' => ∃ n', n' < n ∧ Wv n' ρ' st', bk := D.nx } ρ st1
    | false => D.nx ρ st1) (fun e st1 => D.ex e ρ st1)
theorem s_while (hp : PassesOwn (model X.prog X.w) X.A X.env X.xe) (hc : JT X T W c tc) (hb : JSs X T W a t) : JS X T W (.While c a [] pos) (sWhile tc t) := PS.imp (ps_while hp hc hb) fun D σ H h => by
  obtain ⟨ρ, st, m, D', rs, rel, ⟨Wv, ⟨n0, w0⟩, turn⟩, fin⟩ := h
  refine ⟨fun n σ1 H1 => ∃ ρ1 st1 m1, RS X.K m1 H1 σ1 ρ1 ∧ Rel X.K T m1 st1 H1 ∧ Wv n ρ1 st1 ∧ Grow m H m1 H1, ⟨n0, ρ, st, m, rs, rel, w0, Grow.refl⟩, fun n σ1 H1 hw => ?_⟩
  obtain ⟨ρ1, st1, m1, rs1, rel1, w1, g1⟩ := hw
  refine ⟨ρ1, st1, m1, _, _, rs1, rel1, turn n ρ1 st1 w1, fun b st2 hb m2 H2 g2 rel2 => ?_, (fin.step g1).finx rel1 rs1⟩
  cases b with
  | false =>
    rw [if_neg Bool.false_ne_true]
    exact fin.nx ρ1 st2 hb σ1 m2 H2 (g1.trans g2) rel2 (rs1.grow rel1 g2)
  | true =>
    rw [if_pos rfl]
    have f2 := fin.step (g1.trans g2)
    have again : FinE X.K T m2 H2 (fun ρ' st' => ∃ n', n' < n ∧ Wv n' ρ' st') (fun σ' H' => ∃ n', n' < n ∧ ∃ ρ3 st3 m3, RS X.K m3 H' σ' ρ3 ∧ Rel X.K T m3 st3 H' ∧ Wv n' ρ3 st3 ∧ Grow m H m3 H') := fun ρ3 st3 ⟨n', hn, w3⟩ σ3 m3 H3 g3 rel3 rs3 =>
      ⟨n', hn, ρ3, st3, m3, rs3, rel3, w3, (g1.trans g2).trans g3⟩
    exact ⟨_, fun _ _ q => q, ρ1, st2, m2, _, rs1.grow rel1 g2, rel2, hb, ⟨again, f2.rt, f2.nx, again, f2.ex⟩⟩
end
abbrev SemG := PV → Env → Store → (Env → Store → Prop) → Prop
def tG (K : PySem.W.Frag) (T : List (Addr × Str)) (g : SemG) : TG := fun x σ H Q => ∃ v ρ st m P, RV K m H x v ∧ RS K m H σ ρ ∧ Rel K T m st H ∧ g v ρ st P ∧ FinE K T m H P Q
abbrev JG (X : Cx) (T : List (Addr × Str)) (e : Expr) (g : SemG) : Prop := PG X e (tG X.K T g)
def kName (i : Nat) : SemG := fun v ρ st P => P (ρ.set i (some v)) st
def kTup2 (i j : Nat) : SemG := fun v ρ st P => match v with
  | .tup [a, b] => P ((ρ.set i (some a)).set j (some b)) st
  | _ => False
theorem PG.imp {X : Cx} {e : Expr} {t t' : TG} (h : PG X e t) (i : ∀ x σ H Q, t' x σ H Q → t x σ H Q) : PG X e t' := ⟨fun pins s σ H v u Q I r q => h.run pins s σ H v u Q I r (i v σ H Q q)⟩
section
variable {X : Cx} {T : List (Addr × Str)} {W : WX} {pos : Pos}
theorem g_name {i : Nat} {x : Str} (hN : X.N.Nodup) (hi : X.N[i]? = some x) (hx : Loc X.env.scope x) (hf : X.fn x = true ∨ X.env.scope.names.lookup x = some .local := by first | exact .inl rfl | exact .inr rfl | assumption) : JG X T (.Name x pos) (kName i) :=
  PG.imp (pg_name hN hi hx hf) fun xv σ H Q h => by
    obtain ⟨v, ρ, st, m, P, rv, rs, rel, hg, fin⟩ := h
    exact fin _ st hg _ m H Grow.refl rel (rs.set i rv)
theorem g_tup2 {i j : Nat} {x y : Str} {p1 p2 : Pos} {k : Nat} (hc : X.calm = true) (hN : X.N.Nodup) (hi : X.N[i]? = some x) (hx : Loc X.env.scope x) (hj : X.N[j]? = some y) (hy : Loc X.env.scope y)
    (hfx : X.fn x = true ∨ X.env.scope.names.lookup x = some .local := by first | exact .inl rfl | exact .inr rfl | assumption) (hfy : X.fn y = true ∨ X.env.scope.names.lookup y = some .local := by first | exact .inl rfl | exact .inr rfl | assumption) :
    JG X T (.Tuple [.Name x p1, .Name y p2] k pos) (kTup2 i j) :=
  PG.imp (pg_tup hc (pgs_cons (pg_name hN hi hx hfx) (pgs_cons (pg_name hN hj hy hfy) pgs_nil))) fun xv σ H Q h => by
    obtain ⟨v, ρ, st, m, P, rv, rs, rel, hg, fin⟩ := h
    unfold kTup2 at hg
    split at hg
    · cases rv with
      | tup hq hs =>
        obtain ⟨a1, b1, rfl, r1, r2⟩ := hs.two
        exact ⟨_, _, rfl, hq, rfl, a1, [b1], rfl, b1, [], rfl, rfl, fin _ st hg _ m H Grow.refl rel ((rs.set i r1).set j r2)⟩
    · exact hg.elim
/-- target = e -/
def sAsgG (f : Sem) (g : SemG) : SemS := fun D ρ st => f ρ st (fun v st1 => g v ρ st1 D.nx) (fun e st1 => D.ex e ρ st1)
theorem s_asgG {tg e : Expr} {f : Sem} {g : SemG} (he : JE X T W e f) (hg : JG X T tg g) (hs : swapsWithSole [tg] e pos.line X.env = pure false := by rfl) (hw : swappedStores [tg] e X.env = pure none := by rfl)
    (h1 : (assignEach [tg] X.env).map (·.2) = [assign tg X.env] := by rfl) : JS X T W (.Assign [tg] e pos) (sAsgG f g) := PS.imp (ps_asg he hg hs hw h1) fun D σ H h => by
  obtain ⟨ρ, st, m, D', rs, rel, hf, fin⟩ := h
  exact ⟨ρ, st, m, _, _, rs, rel, hf, fun v st1 hv x m1 H1 g1 rel1 rv1 => ⟨v, ρ, st1, m1, _, rv1, rs.grow rel g1, rel1, hv, fin.nx.step g1⟩, fin.finx rel rs⟩
theorem RVs.drop {K : PySem.W.Frag} {m : List Addr} {H : Hp} : ∀ {xs : List V} {vs : List PV} (i : Nat), RVs K m H xs vs → RVs K m H (xs.drop i) (vs.drop i)
  | _, _, 0, r => r
  | _, _, _ + 1, .nil => .nil
  | _, _, i + 1, .cons _ r => RVs.drop i r
/-- for x in range(n), range(a, b) -/
def upto (lo : Int) : Nat → List PV
  | 0 => []
  | n + 1 => .int lo :: upto (lo + 1) n
theorem upto_len (lo : Int) : ∀ n : Nat, (upto lo n).length = n
  | 0 => rfl
  | n + 1 => by simp [upto, upto_len (lo + 1) n]
end
end Sm
set_option Elab.async false
set_option linter.all false
set_option maxRecDepth 100000
set_option maxHeartbeats 1000000
namespace Sm
open PySem PySem.Spec PyProof.Rows L2
def ini (N : List Str) (vs : List PV) : Env := vs.map some ++ List.replicate (N.length - vs.length) none
def endOf (P : PK) (PX : XP) : EndP := ⟨fun _ st' => P .non st', P, fun _ _ => False, fun _ _ => False, fun e _ st' => PX e st'⟩
theorem rs_ini {K : PySem.W.Frag} {m : List Addr} {H : Hp} {N : List Str} {vs : List V} {pvs : List PV} (r : RVs K m H vs pvs) : RS K m H (L2.start N vs) (ini N pvs) := by
  have hl := r.length
  refine ⟨by simp [L2.start, ini, hl], fun i v e => ?_⟩
  unfold ini at e
  by_cases hi : i < pvs.length
  · rw [List.getElem?_append_left (by simpa using hi), List.getElem?_map] at e
    cases q : pvs[i]? with
    | none => rw [q] at e; cases e
    | some w =>
      rw [q] at e
      cases e
      obtain ⟨x, e1, r1⟩ := r.get q
      refine ⟨x, ?_, r1⟩
      unfold L2.start
      rw [List.getElem?_append_left (by simpa [hl] using hi), List.getElem?_map, e1]
      rfl
  · rw [List.getElem?_append_right (by simpa using hi), List.getElem?_replicate] at e
    split at e <;> cases e
section
variable {P : Program} {w : World} {K : PySem.W.Frag} {T : List (Addr × Str)} {mg : Str → Option Value} {base : Heap} {x qual : Str} {params : Arguments} {body : List Stmt} {scope : Scope} {dvs : List V} {kws : List (Str × V)} {f : Addr} {fd : FuncData}
theorem g_of {N ps : List Str} {gd : Bool} {k : Nat} {S : SpecF} (F : FunD K x qual params body scope dvs kws f fd) (Sc : FnScope N ps scope) (len : ∀ pvs st Q PX, S pvs st Q PX → pvs.length = ps.length)
    (hbody : ∀ (cdv : Value) (A : Around) (outer : List PySem.Env) (s : Shared) (H : Hp) (E : XK), Room k (A.deeper (envOfC qual scope s.heap.objs.size f cdv)) → Gu gd (A.deeper (envOfC qual scope s.heap.objs.size f cdv)) →
      ∃ t : SemS, JSs (cxOf (L2.CX P w) P w K mg base N qual scope f cdv A outer s H E) T (fun cls d _ H' => E cls d H') body t ∧ ∀ pvs st Q PX, S pvs st Q PX → t (endOf Q PX) (ini N pvs) st) :
    FnG P w K T mg base gd (k + 1) f fd ps S := by
  obtain ⟨oc, od, dV, kV, doc, pm, an, cdv, ct, osl, rfl, lk, hcd, _, _⟩ := F.ex
  refine ⟨len, fun A outer s H args us vs Q E hr hgd e0 hb r hsp => ?_⟩
  obtain ⟨pvs, st, m, PQ, PX, rv, rel, hS, fin, finx⟩ := hsp
  have hl := len _ _ _ _ hS
  have hlv : vs.length = ps.length := rv.length.trans hl
  have KX : K.In s.heap := e0.mod.kin.keeps fun b o e => (e0.bs b o e).1
  have lim : s.heap.NoLimit := e0.mod.nolimit.keeps fun b o e => (e0.bs b o e).1
  have kinds : ∀ y ∈ ps.zip us, scope.names.lookup y.1 = some .local ∨ (scope.names.lookup y.1 = some .cell ∧ ((cellsFrom (s.heap.objs.size + 1) scope.names []).lookup y.1).isSome = true) := by
    intro ⟨n, v⟩ hy
    have hp := Sc.par n (List.of_mem_zip hy).1
    exact hp.imp id fun q => ⟨q, PySem.W.cellsFrom_some _ _ _ (.inl q)⟩
  have hr2 : Room k (A.deeper (envOfC qual scope s.heap.objs.size f cdv)) := hr.deeper _
  refine codeAny_call_function hr.depth (KX _ _ lk) rfl Sc.co Sc.gen rfl (PySem.W.codeRec_of KX hcd) (hb _ _ _ _ ?_)
  refine wpAny_newFunctionEnv_cells Sc.kind kinds fun env he s1 xx => ?_
  subst he
  refine ⟨lim.keeps xx.toInCall.keep, codeAny_func ?_⟩
  obtain ⟨t, ht, hq⟩ := hbody cdv A outer s H E hr2 hgd
  have I := inv_start (CX := L2.CX P w) (E := E) (f := f) (cd := cdv) (qual := qual) Sc hr.hd e0 hlv r xx
  have goal : tS K T (fun cls d _ H' => E cls d H') t { nx := fun _ H' => Q .non H', rt := Q } (L2.start N vs) H :=
    ⟨ini N pvs, st, m, _, rs_ini rv, rel, hq pvs st PQ PX hS, ⟨fun ρ st' p σ m' H' g r' _ => fin .non st' p .non m' H' g r' .non, fin, fun _ _ p => p.elim, fun _ _ p => p.elim, fun e ρ st' p cls d σ m' H' g r' _ ex => finx e st' p cls d m' H' g r' ex⟩⟩
  refine wpAny_mono (ht.run [] s1 (L2.start N vs) H _ I goal) (fun fl s' hs => ?_) fun e s' hs => hs
  cases fl with
  | ret u =>
    obtain ⟨v, σ', H', J, rr, q⟩ := hs
    exact ⟨v, H', J.os, J.bare, J.base, J.hok, rr, q⟩
  | next =>
    obtain ⟨σ', H', J, q⟩ := hs
    exact ⟨V.non, H', J.os, J.bare, J.base, J.hok, rfl, q⟩
  | brk =>
    obtain ⟨_, _, _, q⟩ := hs
    exact q.elim
  | cont =>
    obtain ⟨_, _, _, q⟩ := hs
    exact q.elim
end
theorem nodup_get {α : Type} : ∀ {l : List α} {i j : Nat} {a : α}, l.Nodup → l[i]? = some a → l[j]? = some a → i = j
  | [], _, _, _, _, h, _ => by simp at h
  | x :: l, 0, 0, _, _, _, _ => rfl
  | x :: l, 0, j + 1, a, nd, h1, h2 => by
    simp at h1 h2
    subst h1
    exact absurd (List.mem_of_getElem? h2) (List.nodup_cons.mp nd).1
  | x :: l, i + 1, 0, a, nd, h1, h2 => by
    simp at h1 h2
    subst h2
    exact absurd (List.mem_of_getElem? h1) (List.nodup_cons.mp nd).1
  | x :: l, i + 1, j + 1, a, nd, h1, h2 => by
    simp at h1 h2
    rw [nodup_get (List.nodup_cons.mp nd).2 h1 h2]
mutual
def cl (n : Nat) : PV → Bool
  | .hd k => decide (k < n)
  | .dh k => decide (k < n)
  | .oh k => decide (k < n)
  | .tup l => cls n l
  | .lst l => cls n l
  | .exc _ _ _ v => cl n v
  | _ => true
def cls (n : Nat) : List PV → Bool
  | [] => true
  | v :: vs => cl n v && cls n vs
end
def clO (n : Nat) : Ob → Bool
  | .lst l => cls n l
  | .dct l => cls n (l.map (·.2))
  | .dtt l => cls n (l.map (·.2))
  | .ins _ l => cls n (l.map (·.2))
  | .dck _ _ l => cls n (l.map (·.2))
  | .dtk _ _ l => cls n (l.map (·.2))
/-- v, st': what stands at the end; w, st: what is handed on -/
def Drop (n0 : Nat) (st' : Store) (v : PV) (st : Store) (w : PV) : Prop :=
  n0 ≤ st.length ∧ st = st'.take st.length ∧ (st.all (clO st.length)) = true ∧ ((w = v ∧ cl st.length v = true) ∨ ∃ k l, v = .hd k ∧ st.length ≤ k ∧ st'[k]? = some (.lst l) ∧ w = .lst l ∧ cls st.length l = true)
section
variable {K : PySem.W.Frag} {T : List (Addr × Str)} {m : List Addr} {H : Hp} {st : Store}
mutual
theorem RV.low (n : Nat) : ∀ {x : V} {v : PV}, RV K m H x v → cl n v = true → RV K (m.take n) H x v
  | _, _, .non, _ => .non
  | _, _, .bl b, _ => .bl b
  | _, _, .int i, _ => .int i
  | _, _, .str s, _ => .str s
  | _, _, .ty t, _ => .ty t
  | _, _, .tup h hs, e => .tup h (RVs.low n hs (by simpa [cl] using e))
  | _, _, .lst h hs, e => .lst (by
      rcases h with ⟨h, q⟩ | h
      · exact .inl ⟨h, fun z => q (List.mem_of_mem_take z)⟩
      · exact .inr h) (RVs.low n hs (by simpa [cl] using e))
  | _, _, .hd (n := k) h q, e => .hd (by
      have hk : k < n := by simpa [cl] using e
      rw [List.getElem?_take_of_lt hk]
      exact h) q
  | _, _, .dh (n := k) h q, e => .dh (by
      have hk : k < n := by simpa [cl] using e
      rw [List.getElem?_take_of_lt hk]
      exact h) q
  | _, _, .oh (n := k) h q, e => .oh (by
      have hk : k < n := by simpa [cl] using e
      rw [List.getElem?_take_of_lt hk]
      exact h) q
  | _, _, .adr a, _ => .adr a
  | _, _, .exc h hv, e => .exc h (RV.low n hv (by simpa [cl] using e))
theorem RVs.low (n : Nat) : ∀ {xs : List V} {vs : List PV}, RVs K m H xs vs → cls n vs = true → RVs K (m.take n) H xs vs
  | _, _, .nil, _ => .nil
  | _, _, .cons h hs, e => by
    simp only [cls, Bool.and_eq_true] at e
    exact .cons (RV.low n h e.1) (RVs.low n hs e.2)
end
theorem Rel.low (r : Rel K T m st H) (n : Nat) (h : (st.take n).all (clO n) = true) : Rel K T (m.take n) (st.take n) H := by
  refine ⟨by simp [r.len], r.nd.sublist (List.take_sublist _ _), fun k a o h1 h2 => ?_, r.tab⟩
  have hk : k < n := by
    have := (List.getElem?_eq_some_iff.mp h1).1
    simp at this
    omega
  have h3 := List.all_eq_true.mp h o (List.mem_of_getElem? h2)
  rw [List.getElem?_take_of_lt hk] at h1 h2
  have q := r.ob k a o h1 h2
  cases o with
  | lst l =>
    obtain ⟨xs, e, rs⟩ := q
    exact ⟨xs, e, rs.low n h3⟩
  | dct l =>
    obtain ⟨xs, e, hk, rs⟩ := q
    exact ⟨xs, e, hk, rs.low n h3⟩
  | dtt l =>
    obtain ⟨xs, e, hk, rs⟩ := q
    exact ⟨xs, e, hk, rs.low n h3⟩
  | ins C l =>
    obtain ⟨d, xs, e, hk, rs⟩ := q
    exact ⟨d, xs, e, hk, rs.low n h3⟩
  | dck o k l =>
    obtain ⟨e, hk, rs⟩ := q
    exact ⟨e, hk, rs.low n h3⟩
  | dtk o k l =>
    obtain ⟨e, hk, rs⟩ := q
    exact ⟨e, hk, rs.low n h3⟩
theorem low_grow {m0 : List Addr} {H0 : Hp} (g : Grow m0 H0 m H) (n : Nat) (h : m0.length ≤ n) : Grow m0 H0 (m.take n) H := by
  obtain ⟨e, rfl, he⟩ := g.pre
  refine ⟨⟨e.take (n - m0.length), ?_, fun a ha => he a (List.mem_of_mem_take ha)⟩, g.keep, g.there, g.kd⟩
  rw [List.take_append, List.take_of_length_le h]
end
def dropQ (n0 : Nat) (P : PK) : PK := fun v st' => P v st' ∨ ∃ w st, Drop n0 st' v st w ∧ P w st
def dropX (n0 : Nat) (PX : XP) : XP := fun e st' => PX e st' ∨ ∃ st : Store, n0 ≤ st.length ∧ st = st'.take st.length ∧ (st.all (clO st.length)) = true ∧ cl st.length e.val = true ∧ PX e st
theorem FnG.low {P : Program} {w : World} {K : PySem.W.Frag} {T : List (Addr × Str)} {mg : Str → Option Value} {base : Heap} {gd : Bool} {k : Nat} {f : Addr} {fd : FuncData} {ps : List Str} {S S' : SpecF} (F : FnG P w K T mg base gd k f fd ps S')
    (h : ∀ pvs st Q PX, S pvs st Q PX → S' pvs st (dropQ st.length Q) (dropX st.length PX)) : FnG P w K T mg base gd k f fd ps S := by
  refine ⟨fun pvs st Q PX q => F.len _ _ _ _ (h _ _ _ _ q), fun A outer s H args us vs Q E hr hg e0 hb r hsp => F.run A outer s H args us vs Q E hr hg e0 hb r ?_⟩
  obtain ⟨pvs, st, m, PQ, PX, rv, rel, hS, fin, finx⟩ := hsp
  refine ⟨pvs, st, m, _, _, rv, rel, h _ _ _ _ hS, fun v st' hv x m' H' g r' rx => ?_, fun e st' he cls d m' H' g r' ex => ?_⟩
  · rcases hv with hv | ⟨w, st2, ⟨h1, h2, h3, h4⟩, hv⟩
    · exact fin v st' hv x m' H' g r' rx
    · have g2 := low_grow g st2.length (by rw [rel.len]; exact h1)
      have r2 := r'.low st2.length (by rw [← h2]; exact h3)
      rw [← h2] at r2
      refine fin w st2 hv x (m'.take st2.length) H' g2 r2 ?_
      rcases h4 with ⟨rfl, h4⟩ | ⟨k, l, rfl, hk, hl, rfl, h4⟩
      · exact rx.low _ h4
      · cases rx with
        | @hd a _ hm _ =>
          obtain ⟨xs, e, rs⟩ := r'.ob k a _ hm hl
          refine .lst (.inl ⟨.inl e, fun z => ?_⟩) (rs.low _ h4)
          obtain ⟨j, hj⟩ := List.getElem?_of_mem z
          have hjl : j < st2.length := by
            have := (List.getElem?_eq_some_iff.mp hj).1
            simp at this
            omega
          rw [List.getElem?_take_of_lt hjl] at hj
          have hkl := (List.getElem?_eq_some_iff.mp hm).1
          have := nodup_get r'.nd hj hm
          omega
  · rcases he with he | ⟨st2, h1, h2, h3, h4, he⟩
    · exact finx e st' he cls d m' H' g r' ex
    · have g2 := low_grow g st2.length (by rw [rel.len]; exact h1)
      have r2 := r'.low st2.length (by rw [← h2]; exact h3)
      rw [← h2] at r2
      obtain ⟨e1, dd, y, e2, e3, e4⟩ := ex
      exact finx e st2 he cls d (m'.take st2.length) H' g2 r2 ⟨e1, dd, y, e2, e3, e4.low _ h4⟩
section
variable {K : PySem.W.Frag} {T : List (Addr × Str)} {m : List Addr} {H : Hp} {st : Store} {a : Addr} {n : Nat}
theorem Grow.upd (h : m[n]? = some a) {u o : HO} (hu : H a = some u) (hk : kOf u = kOf o := by rfl) (ho : NT o := by intro _ z; cases z) : Grow m H m (L2.upd H a o) := by
  refine ⟨⟨[], by simp, by simp⟩, fun b u e nb _ => ?_, fun b u e nt => ?_, fun b k ⟨w, e, q⟩ => ?_⟩
  · rw [upd_ne (fun z => nb (by rw [z]; exact List.mem_of_getElem? h))]
    exact e
  · by_cases z : b = a
    · rw [z]
      exact ⟨o, upd_same, ho⟩
    · exact ⟨u, by rw [upd_ne z]; exact e, nt⟩
  · by_cases z : b = a
    · subst z
      rw [hu] at e
      cases e
      exact ⟨o, upd_same, hk ▸ q⟩
    · exact ⟨w, by rw [upd_ne z]; exact e, q⟩
theorem tabs_upd {T : List (Addr × Str)} {o : HO} (t : LamX.Tabs T H) (h : ∃ u, H a = some u ∧ kOf u ≠ 0) : LamX.Tabs T (L2.upd H a o) := fun p hp => by
  obtain ⟨u, ha, hu⟩ := h
  obtain ⟨ps, h1, h2, h3⟩ := t p hp
  refine ⟨ps, by rw [upd_ne (ne_of h1 ha (by intro z; subst z; exact hu rfl))]; exact h1, h2, fun pos cv hc => ?_⟩
  obtain ⟨c, e1, e2⟩ := h3 pos cv hc
  refine ⟨c, e1, ?_⟩
  rw [upd_ne (ne_of e2 ha (by unfold LamX.CodeO; intro z; subst z; exact hu rfl))]
  exact e2
theorem Rel.updO {u o : HO} {l : Ob} (r : Rel K T m st H) (h : m[n]? = some a) (hu : H a = some u) (hk : kOf u = kOf o) (ho : NT o) (rs : ObR K m (L2.upd H a o) a l) : Rel K T m (st.set n l) (L2.upd H a o) := by
  have g : Grow m H m (L2.upd H a o) := Grow.upd h hu hk ho
  refine ⟨by simp [r.len], r.nd, fun k b o h1 h2 => ?_, tabs_upd r.tab (r.atH (List.mem_of_getElem? h)) ⟩
  by_cases hk : n = k
  · subst hk
    rw [h] at h1
    cases h1
    have hl : n < st.length := by rw [← r.len]; exact (List.getElem?_eq_some_iff.mp h).1
    rw [List.getElem?_set_self hl] at h2
    cases h2
    exact rs
  · rw [List.getElem?_set_ne hk] at h2
    have hb : b ≠ a := fun z => by
      subst z
      exact hk (nodup_get r.nd h h1)
    exact (r.ob k b o h1 h2).move r g fun u e => by rw [upd_ne hb]; exact e
theorem Rel.upd {xs ys : List V} {l : List PV} (r : Rel K T m st H) (h : m[n]? = some a) (hu : H a = some (.lst ys)) (rs : RVs K m H xs l) : Rel K T m (st.set n (.lst l)) (L2.upd H a (.lst xs)) :=
  r.updO h hu rfl (by intro _ z; cases z) ⟨xs, upd_same, rs.grow r (Grow.upd h hu)⟩
end
/-- o[i] = e, o a handle -/
def sSetIx (f fo fi : Sem) : SemS := fun D ρ st => f ρ st (fun v st1 => fo ρ st1 (fun o st2 => fi ρ st2 (fun i st3 => match o, i with
  | .hd n, .int k => match st3[n]? with
    | some (.lst l) => match ixN l.length k with
      | some j => D.nx ρ (st3.set n (.lst (l.set j v)))
      | none => False
    | _ => False
  | _, _ => False) (fun e st3 => D.ex e ρ st3)) (fun e st2 => D.ex e ρ st2)) (fun e st1 => D.ex e ρ st1)
section
variable {X : Cx} {T : List (Addr × Str)} {W : WX} {pos p2 : Pos} {e o i : Expr} {f fo fi : Sem}
theorem s_setIx (he : JE X T W e f) (ho : JE X T W o fo) (hi : JE X T W i fi)
    (ha : ∀ v, assign (.Subscript o i p2) X.env v = (do
      let ov ← holding [v] (eval o X.env)
      let iv ← holding [v, ov] (eval i X.env)
      standAt p2
      holding [v, ov, iv] (setItem ov iv v)
      release [v, ov, iv] []) := by intro _; rfl) (hs : swapsWithSole [.Subscript o i p2] e pos.line X.env = pure false := by rfl) (hw : swappedStores [.Subscript o i p2] e X.env = pure none := by rfl)
    (h1 : (assignEach [.Subscript o i p2] X.env).map (·.2) = [assign (.Subscript o i p2) X.env] := by rfl) : JS X T W (.Assign [.Subscript o i p2] e pos) (sSetIx f fo fi) := PS.imp (ps_asg he (pg_sub ho hi set_list ha) hs hw h1) fun D σ H h => by
  obtain ⟨ρ, st, m, D', rs, rel, hf, fin⟩ := h
  refine ⟨ρ, st, m, _, _, rs, rel, hf, fun v st1 hv x m1 H1 g1 rel1 rv1 => ?_, fin.finx rel rs⟩
  refine ⟨ρ, st1, m1, _, _, rs.grow rel g1, rel1, hv, fun vo st2 hvo xo m2 H2 g2 rel2 rvo => ?_, (fin.finx rel rs).step g1⟩
  refine ⟨ρ, st2, m2, _, _, (rs.grow rel g1).grow rel1 g2, rel2, hvo, fun vi st3 hvi xi m3 H3 g3 rel3 rvi => ?_, ((fin.finx rel rs).step g1).step g2⟩
  dsimp only at hvi
  split at hvi
  · split at hvi
    · rename_i l hl
      split at hvi
      · rename_i j hj
        cases rvi
        cases rvo.grow rel2 g3 with
        | @hd a n hn _ =>
          obtain ⟨xs, hq, hxs⟩ := rel3.ob _ _ _ hn hl
          have rx := (rv1.grow rel1 g2).grow rel2 g3
          have rel4 := rel3.upd hn hq (RVs.set rx j hxs)
          have g4 : Grow m3 H3 m3 (L2.upd H3 a (.lst (xs.set j x))) := Grow.upd hn hq
          exact ⟨a, xs, _, j, rfl, rfl, hq, by rw [hxs.length]; exact hj, fin.nx _ _ hvi σ m3 _ (((g1.trans g2).trans g3).trans g4) rel4 ((((rs.grow rel g1).grow rel1 g2).grow rel2 g3).grow rel3 g4)⟩
      · exact hvi.elim
    · exact hvi.elim
  · exact hvi.elim
/-- xs.append(e), xs a handle -/
def sApp (fo : Sem) (g : SemA) : Sem := fun ρ st P PX => fo ρ st (fun o st1 => match o with
  | .hd n => g ρ st1 (fun vs st2 => match vs with
    | [v] => match st2[n]? with
      | some (.lst l) => l.length < 100000 ∧ P .non (st2.set n (.lst (l ++ [v])))
      | _ => False
    | _ => False) PX
  | _ => False) PX
theorem w_app {apos cpos : Pos} {es : List Expr} {g : SemA} (ho : JE X T W o fo) (ha : JA X T W (e :: es) g)
    (hbase : attributeBase o "append" X.env (eval o X.env) = eval o X.env := by rfl)
    (hfew : ((backTo cpos (starEach (e :: es) X.env)).all (fun x => !x.1) && (backToKw cpos (keywordEach [] X.env)).all (fun x => x.1.isSome)
      && decide ((e :: es).length + ([] : List Keyword).length + (if ([] : List Keyword).isEmpty then 0 else 1) < 30)) = true := by rfl)
    (hline : (apos.endLine == cpos.line) = true := by rfl) (hs : starEach (e :: es) X.env = (false, eval e X.env) :: starEach es X.env := by rfl) (hplain : (backTo cpos (starEach es X.env)).any (·.1) = false := by rfl) :
    JE X T W (.Call (.Attribute o "append" apos) (e :: es) [] cpos) (sApp fo g) :=
  PE.imp (pe_bm PySem.F.plainAttrs_list PySem.F.slot_list_append PySem.F.type_list_append mt_append ho ha hbase hfew hline hs hplain) fun σ H Q h => by
    obtain ⟨ρ, st, m, P, PX, rs, rel, hf, fin, finx⟩ := h
    refine ⟨ρ, st, m, _, PX, rs, rel, hf, fun v st1 hv x m1 H1 g1 rel1 rv1 => ?_, finx⟩
    dsimp only at hv
    split at hv
    · rename_i n
      cases rv1 with
      | @hd a _ hn hk =>
        obtain ⟨o, hz0, hk⟩ := hk
        obtain ⟨zs, rfl⟩ := kOf1 hk
        refine ⟨.inl ⟨rfl, _, SqL.of hz0⟩, ρ, st1, m1, _, PX, rs.grow rel g1, rel1, hv, fun vs st2 hvs xs m2 H2 g2 rel2 rvs => ?_, finx.step g1⟩
        dsimp only at hvs
        split at hvs
        · split at hvs
          · rename_i l hl
            obtain ⟨hz, hvs⟩ := hvs
            obtain ⟨y, rfl, ry⟩ := rvs.one
            have hn2 := get_grow g2 hn
            obtain ⟨ys, hq, hys⟩ := rel2.ob _ _ _ hn2 hl
            have rel3 := rel2.upd hn2 hq (hys.append (.cons ry .nil))
            have g3 : Grow m2 H2 m2 (L2.upd H2 a (.lst (ys ++ [y]))) := Grow.upd hn2 hq
            exact ⟨a, ys, y, rfl, rfl, hq, Nat.lt_of_lt_of_le (by rw [hys.length]; exact hz) (by decide), fin _ _ hvs _ m2 _ ((g1.trans g2).trans g3) rel3 .non⟩
          · exact hvs.elim
        · exact hvs.elim
    · exact hv.elim
end
end Sm
set_option Elab.async false
set_option linter.all false
set_option maxRecDepth 100000
set_option maxHeartbeats 1000000
namespace PySem
namespace SxO
open PySem.W PySem.Calls PyProof.Rows PySem.HandSPX
section
open Builtin Builtin.ObjectAttr
variable {prog : Program} {w : World} {A : Around} {R : Result → Shared → Prop} {hp : Heap} {g : Array GenState} {d : Drawn} {t : Nat} {os : OsState} {B : String} {bmB : List Value}
/-- a first field of an exception whose class stands over the built-in B -/
theorem osa_first {K : W.Frag} {name : Str} {tk : Tok} {v : Value} {x C : Addr} {fv : Array Value} {cd : ClassData} (SF : StoreFacts B bmB "object.__setattr__" "object")
    (X : K.In hp) (hx : hp.get? x = some { cls := .ref C, data := .fields fv }) (hcd : W.clsIn K C = some cd) (hm : excTail bmB cd.mro = true) (ne : cd.mro.isEmpty = false) (hh : cd.hasDict = true) (ha : W.findIn K (.ref C) name = some none)
    (hq : ∀ h' tk' dx, (∀ b o, b ≠ x → hp.get? b = some o → h'.get? b = some o) → hp.objs.size ≤ dx → dx ≠ x → h'.get? x = some { cls := .ref C, dict := some dx, data := .fields fv } →
      h'.Ns1 dx (fun y => if y = name then some v else none) → R (.ok (.ret .none)) ⟨h', g, d, tk', os⟩) :
    codeAny (model prog w) A (.call (.builtin "object.__setattr__") ⟨[.ref x, .str name tk, v], []⟩) R ⟨hp, g, d, t, os⟩ := by
  have inst : W.InstAt hp x { cls := .ref C, data := .fields fv } C none := ⟨hx, rfl, rfl, trivial⟩
  have obj : cd.mro.contains (.type "object") = true := (excTail_contains "object" _ hm).trans SF.hasOwner
  have apart : hp.objs.size ≠ x := Nat.ne_of_gt (Heap.lt_size hx)
  have isObj : W.Looks (model prog w) hp (isInstance (.ref x) (.type "object")) true :=
    inst.type.andThen (W.looks_mroIn X (by unfold W.mroIn; rw [hcd, Option.bind_some, if_neg (by rw [ne]; decide), obj]))
  refine codeAny_call_builtin SF.slot.plain SF.entry ?_
  refine @W.check_slot (model prog w) _ _ ⟨hp, g, d, t, os⟩ "object.__setattr__" "object" "__setattr__" (.ref x) [.str name tk, v] [] _ SF.kind SF.split isObj (SF.args (.ref x) (.str name tk) v) ?_
  have lm : W.Looks (model prog w) hp (mroOf (.ref C)) cd.mro := (W.looks_clsIn X hcd).andThen .now
  have lt : W.Looks (model prog w) hp (storeTaker? none) none := .now
  have lc : W.Looks (model prog w) hp (classData C) cd := W.looks_clsIn X hcd
  have la := W.looks_findIn (M := model prog w) X ha
  have lp := excTail_pass (.ref x) (SF.passes _) _ hm
  rw [W.osa_eq, refuse_eq]
  refine wpAny_bind (wpAny_bind (inst.type.at (wpAny_bind (lm.at ?_))))
  rw [lp]
  refine wpAny_pure (wpAny_bind (inst.type.at ?_))
  refine wpAny_bind (la.at (wpAny_bind (lt.at ?_)))
  show wpAny _ _ (storeInOwnDict (.ref x) (.ref C) (.str name tk) name v false) _ _ _
  cases cd with
  | mk nm bs mro ns qn hd sn sb ab col del =>
    have hh' : hd = true := hh
    subst hh'
    unfold storeInOwnDict ownDictForStores
    repeat (first | with_reducible refine store_in_new ?_ ?_ | with_reducible refine wpAny_loadPart_at hx ?_ | with_reducible refine lc.at ?_ | wp_step)
    · exact ⟨_, #[], _, (Heap.get?_update_ne _ _ _ _ apart).trans (Heap.get?_push_at rfl rfl), rfl, fun e he => absurd he (by simp), fun _ => rfl⟩
    · intro h' tk' hn' same
      have there : (hp.push { cls := .type "dict", data := .dict #[] }).get? x = some { cls := .ref C, data := .fields fv } := Heap.get?_push_of_some _ hx
      have atx := (same.2 x apart.symm).trans (Heap.get?_update_self _ there rfl)
      exact hq h' tk' hp.objs.size (fun b o hb ho => (same.2 b (Nat.ne_of_lt (Heap.lt_size ho))).trans ((Heap.get?_update_ne _ _ _ _ hb).trans (Heap.get?_push_of_some _ ho))) (Nat.le_refl _) apart atx hn'
end
structure NewF (B newId initId : String) (bm : List Value) : Prop extends ExcCallFacts B newId initId where
  spl : splitId newId = some (B, "__new__")
  knd : builtinKind newId = some .builtinFn
  row : Manifest.signature? newId = some ⟨.any, B, B, .cls, [⟨"args", .varPos, false⟩, ⟨"kwargs", .varKw, false⟩]⟩
  onB : bm.contains (.type B) = true
  noA : bm.contains (.type "AttributeError") = false
  noN : bm.contains (.type "NameError") = false
  can : Manifest.canonical newId = Manifest.canonical "BaseException.__new__"
theorem NewF.of {B newId initId : String} {bm : List Value} (F : ExcBaseFacts B newId initId bm) : NewF B newId initId bm := ⟨F.toExcCallFacts, F.newSplit, F.newKind, F.newRow, F.hasB, F.noAttr, F.noName, F.canon⟩
section
variable {M : Model} {prog : Program} {w : World} {A : Around} {E : Value → Shared → Prop} {R : Result → Shared → Prop} {hp : Heap} {g : Array GenState} {d : Drawn} {t : Nat} {os : OsState} {nm q : Str} {C N fI : Addr} {bs bm bmB rest : List Value} {hd : Bool} {sn : List Str} {sub : List Value} {ab : Bool} {col : Option Bool} {dd : Option Addr} {k0 k1 k2 k3 k5 : Option Value} {B newId initId : String}
theorem nw_check (F : NewF B newId initId bm) {Q : Unit → Shared → Prop} (hC : hp.get? C = some (excClassObj nm q C N bs bm hd sn sub ab col dd k0 k1 k2 k3 k5 newId)) (hq : Q () ⟨hp, g, d, t, os⟩) : wpAny M A (checkBuiltinCall newId ⟨.ref C :: rest, []⟩) Q E ⟨hp, g, d, t, os⟩ := by
  have isB : (Value.ref C :: bm).contains (.type B) = true := by simp only [List.contains_cons, F.onB, Bool.or_true]
  have ns := F.noStar
  simp only [checkBuiltinCall, F.knd, F.spl, F.row]
  repeat (first | (refine wpAny_isSubtype_exc hC ?_; rw [isB]) | refine wpAny_loadPart_at hC ?_ | refine wpAny_madeBy_exc hC ?_ | refine wpAny_staticBase_exc hC ?_ | simp only [if_false, Bool.false_eq_true, bne_self_eq_false] | wp_step)
  exact hq
theorem nw_new (F : NewF B newId initId bm) (hC : hp.get? C = some (excClassObj nm q C N bs bm hd sn sub ab col dd k0 k1 k2 k3 k5 newId)) (hr : rest.length ≤ sizeLine)
    (hq : R (.ok (.ret (.ref (hp.objs.size + 1)))) ⟨(hp.push (kdv_tup rest)).push (excO C hp.objs.size), g, d, t, os⟩) : codeAny (model prog w) A (.builtin newId ⟨.ref C :: rest, []⟩) R ⟨hp, g, d, t, os⟩ := by
  have ends := F.ends
  have isB : (Value.ref C :: bm).contains (.type B) = true := by simp only [List.contains_cons, F.onB, Bool.or_true]
  have isA : (Value.ref C :: bm).contains (.type "AttributeError") = false := by simp only [List.contains_cons, F.noA]; rfl
  have isN : (Value.ref C :: bm).contains (.type "NameError") = false := by simp only [List.contains_cons, F.noN]; rfl
  refine codeAny_builtinAt F.entry ?_; unfold Builtin.«BaseException.__new__»; refine wpAt_bind ?_
  show wpAt _ _ _ (stack >>= _) _ _ _
  refine wpAt_bind (wpAt_stack fun _ _ => wpAt_of_wpAny ?_); wp_walk; refine wpAt_of_wpAny ?_; rw [F.owner]
  repeat (first | with_reducible refine wpAny_loadPart_at hC ?_ | with_reducible refine wpAny_madeHere_exc F.can hC ?_ | (with_reducible refine wpAny_isSubtype_exc hC ?_; first | rw [isB] | rw [isA] | rw [isN]) | wp_step)
  show R _ _
  rw [Heap.size_push]; exact hq
theorem nw_call (F : NewF B newId initId bm) {Q : PySem.Fin → Shared → Prop} (hC : hp.get? C = some (excClassObj nm q C N bs bm hd sn sub ab col dd k0 k1 k2 k3 k5 newId))
    (hi : W.Looks (model prog w) hp (typeLookup (.ref C) "__init__") (some (.ref fI))) (hb : ∀ o, W.Looks (model prog w) hp (bindSpecial (.ref fI) o) (.ref fI, [o])) (hr : rest.length ≤ sizeLine)
    (hq : codeAny (model prog w) A (.call (.ref fI) ⟨.ref (hp.objs.size + 1) :: rest, []⟩) (fun r s' => match r with
      | .ok (.ret v) => v = .none ∧ Q (.done (.ret (.ref (hp.objs.size + 1)))) s'
      | .ok _ => False
      | .error e => E e s') ⟨(hp.push (kdv_tup rest)).push (excO C hp.objs.size), g, d, t, os⟩) : wpAny (model prog w) A (Builtin.«type.__call__» ⟨.ref C :: rest, []⟩) Q E ⟨hp, g, d, t, os⟩ := by
  repeat (first | with_reducible refine wpAny_madeBy_exc hC ?_ | with_reducible refine wpAny_loadPart_at hC ?_ | wp_step)
  refine codeAny_call_builtin_code (Code.quiet_builtin _ F.quiet) (nw_check F hC (nw_new F hC hr ?_))
  show wpAny _ _ _ _ _ _
  have kk : ∀ b o, hp.get? b = some o → ((hp.push (kdv_tup rest)).push (excO C hp.objs.size)).get? b = some o := fun b o e => Heap.get?_push_of_some _ (Heap.get?_push_of_some _ e)
  have hC1 := kk _ _ hC
  have hx : ((hp.push (kdv_tup rest)).push (excO C hp.objs.size)).get? (hp.objs.size + 1) = some (excO C hp.objs.size) := by heap_get
  have isC : (Value.ref C :: bm).contains (.ref C) = true := by simp only [List.contains_cons, beq_self_eq_true, Bool.true_or]
  have hi1 := hi.keeps kk
  have hb1 := (hb (.ref (hp.objs.size + 1))).keeps kk
  unfold isInstance
  repeat (first | with_reducible refine wpAny_loadPart_at hx ?_ | (with_reducible refine wpAny_isSubtype_exc hC1 ?_; rw [isC]) | wp_step)
  show wpAny _ _ (typeLookup (.ref C) _) _ _ _
  refine hi1.at (wpAny_holding (wpAny_bind (hb1.at (wpAny_bind (wpAny_call (codeAny_mono hq fun r s' z => ?_))))))
  rcases r with e | (v | _ | _ | _) <;> first | exact z | exact z.elim | skip
  obtain ⟨rfl, z⟩ := z
  first | exact wpAny_pure (wpAny_pure z) | (wp_walk; exact z)
theorem nw_made (F : NewF B newId initId bm) (hC : hp.get? C = some (excClassObj nm q C N bs bm hd sn sub ab col dd k0 k1 k2 k3 k5 newId))
    (hi : W.Looks (model prog w) hp (typeLookup (.ref C) "__init__") (some (.ref fI))) (hb : ∀ o, W.Looks (model prog w) hp (bindSpecial (.ref fI) o) (.ref fI, [o])) (hr : rest.length ≤ sizeLine)
    (hq : codeAny (model prog w) (A.under (.builtin "type.__call__" ⟨.ref C :: rest, []⟩)) (.call (.ref fI) ⟨.ref (hp.objs.size + 1) :: rest, []⟩) (W.InitBack (hp.objs.size + 1) R) ⟨(hp.push (kdv_tup rest)).push (excO C hp.objs.size), g, d, t, os⟩) :
    codeAny (model prog w) A (.call (.ref C) ⟨rest, []⟩) R ⟨hp, g, d, t, os⟩ := by
  have l1 := tc_lookup
  have l2 := tc_bind (.ref C)
  have ty : (⟨hp, g, d, t, os⟩ : Shared).TypeIs (.ref C) "type" := ⟨_, hC, rfl⟩
  refine codeAny_of_tree ?_
  show wpAny _ _ (callAny (.ref C) _) _ _ _
  repeat (any_goals (first | assumption | with_reducible refine wpAny_loadPart_at hC ?_ | wp_step))
  refine ⟨rfl, codeAny_call_builtin_at (Code.quiet_builtin _ (by decide +kernel)) entry_typeCall (wpAny_check_type_call_sub hC (nw_call F hC hi hb hr (codeAny_mono hq fun r s' z => ?_)))⟩
  rcases r with e | (v | _ | _ | _) <;> exact z
end
theorem NewF.over {B newId initId : String} {bm bmB : List Value} (F : NewF B newId initId bmB) (hT : ∀ X : String, bm.contains (.type X) = bmB.contains (.type X)) : NewF B newId initId bm := ⟨F.toExcCallFacts, F.spl, F.knd, F.row, (hT _).trans F.onB, (hT _).trans F.noA, (hT _).trans F.noN, F.can⟩
def xArgs (f : String) (p1 p2 : Pos) : Arguments := { posonlyargs := [], args := [{ arg := "self", annotation := none, pos := p1 }, { arg := f, annotation := none, pos := p2 }], vararg := none, kwonlyargs := [], kw_defaults := [], kwarg := none, defaults := [] }
def xBody (f : String) (q1 q2 q3 q4 : Pos) : List Stmt := [.Assign [.Attribute (.Name "self" q1) f q2] (.Name f q3) q4]
def xScope (f : String) : Scope := { kind := .function, names := [(PySem.Str.ofString "self", .local), (PySem.Str.ofString f, .local)], isGenerator := false, isCoroutine := false, more := [] }
structure ExT (K : Frag) (B newId initId : String) (bmB : List Value) (C fI : Addr) (f qi : String) : Prop where
  FB : NewF B newId initId bmB
  SF : ∃ BK : String, StoreFacts BK bmB "object.__setattr__" "object"
  cls : ∃ nm q N bs bm sn sub ab col dd k0 k1 k2 k3 k5, K.lookup C = some (excClassObj nm q C N bs bm true sn sub ab col dd k0 k1 k2 k3 k5 newId) ∧ excTail bmB bm = true
  sa : findIn K (.ref C) "__setattr__" = some (some (.builtin "object.__setattr__"))
  ga : findIn K (.ref C) "__getattribute__" = some (some (.builtin "BaseException.__getattribute__"))
  gg : findIn K (.ref C) "__getattr__" = some none
  noN : findIn K (.ref C) (f : Str) = some none
  iC : findIn K (.ref C) "__init__" = some (some (.ref fI))
  tI : typeIn K (.ref fI) = some (.type "function")
  kC : keepIn K (.ref C) = true
  exC : subIn K (.ref C) (.type "BaseException") = some true
  tyC : typeIn K (.ref C) = some (.type "type")
  hdC : hasDictIn K C = true
  fn : ∃ (oc : Value) (od : Option Addr) (doc pm : Value) (an : Option Addr) (cdv ct : Value) (osl : Array (Option Value)) (p1 p2 q1 q2 q3 q4 : Pos),
    K.lookup fI = some ⟨oc, od, .func (fnOf "__init__" qi (xArgs f p1 p2) (xBody f q1 q2 q3 q4) (xScope f) .none .none doc pm an cdv ct), osl⟩ ∧ codeIn K cdv qi = true
theorem ld_own {M : Model} {s : Shared} {name : Str} {scope : Scope} {L a : Addr} {cd : Value} {m : Str → Option Value} {x : Str} {pos : Pos} {v : Value} {Q : Value → Shared → Prop} {A : Around} {E : Value → Shared → Prop}
    (hn : s.heap.Ns L m) (hv : m x = some v) (h : Q v s) (hk : scope.kind = .function) (hl : (envOfC name scope L a cd).kindOf x = some .local) (hd : (x == ("__debug__" : Str)) = false) :
    wpAny M A (eval (.Name x pos) (envOfC name scope L a cd)) Q E s := wpAny_Name (wpAny_loadName_local hk hl hn hv h) hd
/-- what __init__ leaves of the fresh exception at x -/
structure Laid (h h' : Heap) (x C dx t1 : Addr) (f : Str) (v : Value) : Prop where
  keep : ∀ b o, b ≠ x → h.get? b = some o → h'.get? b = some o
  obj : h'.get? x = some { cls := .ref C, dict := some dx, data := .fields #[.ref t1, .none, .none, .none, .bool false, .none] }
  dbig : h.objs.size ≤ dx
  dne : dx ≠ x
  ns : h'.Ns1 dx (fun y => if y = f then some v else none)
structure Made (h h' : Heap) (e C d : Addr) (f : Str) (v : Value) : Prop where
  keep : ∀ b o, h.get? b = some o → h'.get? b = some o
  new : h.objs.size ≤ e
  obj : ∃ oe vs, h'.get? e = some oe ∧ oe.cls = .ref C ∧ oe.dict = some d ∧ oe.data = .fields vs ∧ vs[1]? = some .none
  dbig : h.objs.size ≤ d
  dne : d ≠ e
  ns : h'.Ns1 d (fun y => if y = f then some v else none)
/-- what __init__ binds -/
def xBinds (f : String) (x v : Value) : List (Str × Value) := [(("self" : Str), x), ((f : Str), v)]
/-- what must be true of the field's name: it is no other name of __init__ -/
structure FldOk (f : String) : Prop where
  loc : ∀ (q : Str) (L a : Addr) (cd : Value), (envOfC q (xScope f) L a cd).kindOf (f : Str) = some .local
  slf : ∀ (q : Str) (L a : Addr) (cd : Value), (envOfC q (xScope f) L a cd).kindOf ("self" : Str) = some .local
  dbg : ((f : Str) == ("__debug__" : Str)) = false
  bind : ∀ (qi : Str) (p1 p2 q1 q2 q3 q4 : Pos) (doc pm cdv ct x v : Value) (an : Option Addr), bindArgs (fnOf "__init__" qi (xArgs f p1 p2) (xBody f q1 q2 q3 q4) (xScope f) .none .none doc pm an cdv ct) ⟨[x, v], []⟩ = pure (xBinds f x v)
  m1 : ∀ (q : Str) (L a : Addr) (cd x v : Value), bindL (envOfC q (xScope f) L a cd).kindOf (xBinds f x v) (fun _ => none) (f : Str) = some v
  m2 : ∀ (q : Str) (L a : Addr) (cd x v : Value), bindL (envOfC q (xScope f) L a cd).kindOf (xBinds f x v) (fun _ => none) ("self" : Str) = some x
  kinds : ∀ x v : Value, ((xBinds f x v).all fun y => (xScope f).names.lookup y.1 == some .local || (xScope f).names.lookup y.1 == some .cell) = true
section
variable {prog : Program} {w : World} {A : Around} {E : Value → Shared → Prop} {R : Result → Shared → Prop} {s : Shared} {K : Frag} {B newId initId : String} {bmB : List Value} {C fI : Addr} {f qi : String}
theorem init_runs (T : ExT K B newId initId bmB C fI f qi) (FO : FldOk f) {x t0 : Addr} {v : Value} (X : K.In s.heap) (hlim : s.heap.NoLimit) (hx : s.heap.get? x = some (excO C t0)) (hroom : A.depth < recursionLimit)
    (hq : ∀ h' tk dx, Laid s.heap h' x C dx t0 f v → R (.ok (.ret .none)) { s with heap := h', toks := tk }) : codeAny (model prog w) A (.call (.ref fI) ⟨[.ref x, v], []⟩) R s := by
  obtain ⟨oc, od, doc, pm, an, cdv, ct, osl, p1, p2, q1, q2, q3, q4, ho, hcd⟩ := T.fn
  obtain ⟨BK, SF⟩ := T.SF
  obtain ⟨nm, q, N, bs, bm, sn, sub, ab, col, dd, k0, k1, k2, k3, k5, hC, hbm⟩ := T.cls
  have hcl : clsIn K C = some { name := nm, bases := bs, mro := .ref C :: bm, ns := N, qualname := q, hasDict := true, slotNames := sn, subclasses := sub, abstract := ab, collection := col, hasDel := false } := by
    unfold clsIn
    rw [hC] <;> rfl
  refine Att.call_fn (binds := xBinds f (.ref x) v) X hlim ho hcd hroom (BindsTo.of_eq (FO.bind _ _ _ _ _ _ _ _ _ _ _ _ _ _)) (FO.kinds _ _) (fun s₁ IC => ?_) rfl rfl rfl
  obtain ⟨h₁, tk₁, rfl⟩ := IC.toInCall.same
  have k : ∀ b o, s.heap.get? b = some o → h₁.get? b = some o := IC.toInCall.keep
  have hn := IC.toInCall.ns
  have X₁ : K.In h₁ := X.keeps k
  have hx₁ := k _ _ hx
  show wpAny _ _ (execs _ _) _ _ _
  refine wpAny_execs_cons (plainObj_wpAny_Assign_Attribute ?_)
  refine ld_own (v := v) hn (FO.m1 _ _ _ _ _ _) ?_ rfl (FO.loc _ _ _ _) FO.dbg
  refine ld_own (v := .ref x) hn (FO.m2 _ _ _ _ _ _) ?_ rfl (FO.slf _ _ _ _) (by decide)
  refine set_plain X₁ (ox := excO C t0) (od := none) ⟨hx₁, rfl, rfl, trivial⟩ T.sa ?_
  refine osa_first SF X₁ hx₁ hcl (show excTail bmB (.ref C :: bm) = true from hbm) rfl rfl T.noN (fun h₃ tk₃ dx k₃ dn dne hx₃ hn₃ => ?_)
  show wpAny _ _ (execs _ _) _ _ _
  have z : s.heap.objs.size < h₁.objs.size := hn.lt
  exact wpAny_execs_nil (hq h₃ tk₃ dx ⟨fun b o hb e => k₃ b o hb (k b o e), hx₃, Nat.le_of_lt (Nat.lt_of_lt_of_le z dn), dne, hn₃⟩)
theorem made (T : ExT K B newId initId bmB C fI f qi) (FO : FldOk f) {v : Value} (X : K.In s.heap) (hlim : s.heap.NoLimit) (hroom : A.depth + 1 < recursionLimit)
    (hq : ∀ h' tk e d, Made s.heap h' e C d f v → R (.ok (.ret (.ref e))) { s with heap := h', toks := tk }) : codeAny (model prog w) A (.call (.ref C) ⟨[v], []⟩) R s := by
  obtain ⟨nm, q, N, bs, bm, sn, sub, ab, col, dd, k0, k1, k2, k3, k5, hC, hbm⟩ := T.cls
  obtain ⟨hp, g, dr, tk, os⟩ := s
  have k : ∀ b o, hp.get? b = some o → ((hp.push (kdv_tup [v])).push (excO C hp.objs.size)).get? b = some o := fun b o e => Heap.get?_push_of_some _ (Heap.get?_push_of_some _ e)
  have hget : ((hp.push (kdv_tup [v])).push (excO C hp.objs.size)).get? (hp.objs.size + 1) = some (excO C hp.objs.size) := by heap_get
  have one : [v].length ≤ sizeLine := by
    rw [sizeLine_eq]
    exact (by decide : 1 ≤ 16777216)
  refine nw_made (T.FB.over fun X => excTail_contains X bm hbm) (X _ _ hC) (looks_findIn X T.iC) (fun self => bind_fn X self T.tI) one ?_
  refine init_runs (s := ⟨(hp.push (kdv_tup [v])).push (excO C hp.objs.size), g, dr, tk, os⟩) T FO (X.keeps k) (hlim.keeps k) hget ?_ fun h' tk' dx ⟨k', hx, dn, dne, hns⟩ => ?_
  · show A.depth + 1 < recursionLimit
    exact hroom
  · have old : ∀ b o, hp.get? b = some o → h'.get? b = some o := fun b o e => k' b o (Nat.ne_of_lt (Nat.lt_succ_of_lt (Heap.lt_size e))) (k b o e)
    have z : hp.objs.size + 1 + 1 ≤ dx := by
      have q := dn
      rw [Heap.size_push, Heap.size_push] at q
      exact q
    exact ⟨rfl, hq h' tk' (hp.objs.size + 1) dx ⟨old, Nat.le_succ _, ⟨_, _, hx, rfl, rfl, rfl, rfl⟩, Nat.le_trans (Nat.le_trans (Nat.le_succ _) (Nat.le_succ _)) z, dne, hns⟩⟩
end
theorem fld_given : FldOk "given" := ⟨fun _ _ _ _ => rfl, fun _ _ _ _ => rfl, by decide +kernel, fun _ _ _ _ _ _ _ _ _ _ _ _ _ _ => rfl, fun _ _ _ _ _ _ => rfl, fun _ _ _ _ _ _ => rfl, fun _ _ => rfl⟩
theorem fld_message : FldOk "message" := ⟨fun _ _ _ _ => rfl, fun _ _ _ _ => rfl, by decide +kernel, fun _ _ _ _ _ _ _ _ _ _ _ _ _ _ => rfl, fun _ _ _ _ _ _ => rfl, fun _ _ _ _ _ _ => rfl, fun _ _ => rfl⟩
end SxO
end PySem
set_option Elab.async false
set_option linter.all false
set_option maxRecDepth 100000
set_option maxHeartbeats 1000000
namespace Sm
open PySem PySem.Spec PyProof.Rows L2
def tMkX (C : Addr) (f : Str) (ta : TA) : L2.St → Hp → XK → Prop := fun σ H Q => ta σ H fun vs H1 => ∃ v, vs = [v] ∧ ∀ d, H1 d = none → Q (.ref C) (some d) (upd H1 d (.xd [(f, v)]))
theorem relO_fld {f : Str} {v : V} {u : Value} (r : RelV v u) (g : Str) : RelO (List.lookup g [(f, v)]) (if g = f then some u else none) := by
  by_cases e : g = f
  · subst e
    rw [if_pos rfl]
    simp only [List.lookup, beq_self_eq_true]
    exact r
  · have e' : (g == f) = false := by simpa using e
    rw [if_neg e]
    simp only [List.lookup, e']
    trivial
section
variable {X : Cx} {T : List (Addr × Str)} {W : WX} {B newId initId : String} {bmB : List Value} {C fI : Addr} {f qi : String} {a : Expr} {g : SemA} {x : Str} {p pos pos2 : Pos} {k : Nat}
theorem pmk_x {ta : TA} (ET : SxO.ExT X.K B newId initId bmB C fI f qi) (FO : SxO.FldOk f) (hr : Room k X.A) (hm : X.mg x = some (.ref C)) (ha : PA X [a] ta) (hg : Gl X x) (hdb : (x == ("__debug__" : Str)) = false := by decide)
    (he : starEach (a :: []) X.env = (false, eval a X.env) :: starEach [] X.env := by rfl) (hpl : (backTo pos (starEach [] X.env)).any (·.1) = false := by rfl) : PMk X (.Call (.Name x p) [a] [] pos) (tMkX C f ta) := by
  intro pins s σ H Q I h
  refine wpAny_Call_Name_kw (ld_glob I hg hm ?_ hdb)
  refine PySem.W.callWith_K (h₀ := X.base) I.ok.mod.kin ET.kC (thn (ha.run pos pins s σ H _ I h) fun us s1 hh => ?_) he hpl
  obtain ⟨vs, H1, I1, r1, v, rfl, q1⟩ := hh
  refine ⟨I1.kIn, ?_⟩
  obtain ⟨v', rfl, rv⟩ := Vals.one r1
  show wpAny _ _ (call (.ref C) [v']) _ _ _
  have lim := I1.nolimit
  have dep := hr.dp
  cases s1 with
  | mk hp gs dr tk os =>
    refine wpAny_call (SxO.made ET FO I1.kIn lim (by omega) fun h' tk' e d M => ?_)
    show MkP X pins σ Q (.ref e) ⟨h', gs, dr, tk', os⟩
    obtain ⟨oe, fv, hoe, hc, hd, hdat, h1⟩ := M.obj
    obtain ⟨G, gk, gn⟩ := restrict h' fun b => decide (b ≠ e)
    have same : ∀ b, b ≠ e → G.get? b = h'.get? b := fun b hb => gk b (decide_eq_true hb)
    have gone : G.get? e = none := gn e (by simp)
    have older : ∀ b o, hp.get? b = some o → G.get? b = some o := fun b o q => (same b (Nat.ne_of_lt (Nat.lt_of_lt_of_le (Heap.lt_size q) M.new))).trans (M.keep b o q)
    have told : ObjOk X.prog X.w (upd H1 d (.xd [((f : Str), v)])) G d (.xd [((f : Str), v)]) := ⟨_, M.ns.at (fun o q => (same d M.dne).trans q), fun n => relO_fld rv n⟩
    have J : Inv X pins σ (upd H1 d (.xd [((f : Str), v)])) ⟨G, gs, dr, tk', os⟩ := I1.laid (t' := tk') older M.dbig told
    have none_e : (upd H1 d (.xd [((f : Str), v)])) e = none := by
      rw [upd_ne (Ne.symm M.dne)]
      exact I1.hok.fresh M.new
    have sub : ∀ b o, G.get? b = some o → h'.get? b = some o := fun b o q => by
      by_cases hb : b = e
      · rw [hb, gone] at q
        cases q
      · exact (same b hb).symm.trans q
    exact ⟨e, oe, fv, ⟨G, gs, dr, tk', os⟩, _, .ref C, some d, rfl, J, sub, gone, hoe, ⟨hc, hd⟩, hdat, h1, none_e, rfl, I1.bare, raises_own ET.exC ET.tyC, q1 d (I1.hok.fresh M.dbig)⟩
def sRaise (C : Addr) (f : Str) (g : SemA) : SemS := fun D ρ st => g ρ st (fun vs st1 => match vs with
  | [v] => D.ex ⟨C, f, v⟩ ρ st1
  | _ => False) (fun e st1 => D.ex e ρ st1)
theorem s_raise (hc : X.calm = true) (tk : Takes X W) (ET : SxO.ExT X.K B newId initId bmB C fI f qi) (FO : SxO.FldOk f) (hr : Room k X.A) (hm : X.mg x = some (.ref C)) (ha : JA X T W [a] g) (hg : Gl X x) (hdb : (x == ("__debug__" : Str)) = false := by decide)
    (he : starEach (a :: []) X.env = (false, eval a X.env) :: starEach [] X.env := by rfl) (hpl : (backTo pos (starEach [] X.env)).any (·.1) = false := by rfl) :
    JS X T W (.Raise (some (.Call (.Name x p) [a] [] pos)) none pos2) (sRaise C f g) := PS.imp (ps_raise hc tk (pmk_x ET FO hr hm ha hg hdb he hpl)) fun D σ H h => by
  obtain ⟨ρ, st, m, D', rs, rel, hf, fin⟩ := h
  refine ⟨ρ, st, m, _, _, rs, rel, hf, fun vs st1 hv xs m1 H1 g1 rel1 rv => ?_, fin.finx rel rs⟩
  dsimp only at hv
  split at hv
  · obtain ⟨y, rfl, ry⟩ := rv.one
    refine ⟨y, rfl, fun d hd => ?_⟩
    have g2 : Grow m1 H1 m1 (upd H1 d (.xd [((f : Str), y)])) := Grow.new hd
    exact fin.ex _ ρ st1 hv _ _ σ m1 _ (g1.trans g2) (rel1.new hd) ((rs.grow rel g1).grow rel1 g2) ⟨rfl, d, y, rfl, upd_same, ry.grow rel1 g2⟩
  · exact hv.elim
end
def clrE (i : Nat) (D : Ends) : Ends := { nx := fun σ H => D.nx (σ.set i none) H, rt := D.rt, bk := fun σ H => D.bk (σ.set i none) H, ct := fun σ H => D.ct (σ.set i none) H }
abbrev HdL := Value × Option Nat × (Addr → Value → Option Addr → TS)
def wGen (K : PySem.W.Frag) (Wout : WX) (D : Ends) : List HdL → WX
  | [] => Wout
  | (c, o, ts) :: r => fun cls d σ H => ∃ b, PySem.W.exmOne K cls c = some b ∧ (b = true → ∀ a, H a = none → match o with
      | none => ts a cls d D σ H
      | some i => ts a cls d (clrE i D) (σ.set i (some (.ref a))) H) ∧ (b = false → wGen K Wout D r cls d σ H)
inductive HdG (X : Cx) : List ExceptHandler → List HdL → Prop
  | nil : HdG X [] []
  | cons {x : Str} {c : Value} {ts : Addr → Value → Option Addr → TS} {b₀ : Stmt} {suite : List Stmt} {np p' : Pos} {hds : List ExceptHandler} {l : List HdL} (hc : Names X x c)
      (hsu : ∀ (a : Addr) (oe : Obj) (cls : Value) (d : Option Addr) (pn : List (Addr × Obj)), Zc cls d oe → (∃ vs, oe.data = .fields vs) → PSs (X.suite a ((a, oe) :: pn)) (b₀ :: suite) (ts a cls d)) (r : HdG X hds l) :
      HdG X (.ExceptHandler (some (.Name x np)) none (b₀ :: suite) p' :: hds) ((c, none, ts) :: l)
  | named {x n : Str} {i : Nat} {c : Value} {ts : Addr → Value → Option Addr → TS} {b₀ : Stmt} {suite : List Stmt} {np p' : Pos} {hds : List ExceptHandler} {l : List HdL} (hc : Names X x c) (hN : X.N.Nodup) (hi : X.N[i]? = some n) (hln : X.env.kindOf n = some .local)
      (hsu : ∀ (a : Addr) (oe : Obj) (cls : Value) (d : Option Addr) (pn : List (Addr × Obj)), Zc cls d oe → (∃ vs, oe.data = .fields vs) → PSs (X.suite a ((a, oe) :: pn)) (b₀ :: suite) (ts a cls d)) (r : HdG X hds l) :
      HdG X (.ExceptHandler (some (.Name x np)) (some n) (b₀ :: suite) p' :: hds) ((c, some i, ts) :: l)
section
variable {X : Cx} {body : List Stmt} {h₀ : ExceptHandler} {hds : List ExceptHandler} {l : List HdL} {pos : Pos} {tb : WX → TS} {Wout : WX}
theorem ps_tryG (hs : X.stack = X.env :: X.outer) (hf : X.env.frame = some X.env.locals) (tk : Takes X Wout)
    (hb : ∀ (W : WX) (pn : List (Addr × Obj)) (xe : Value → Shared → Prop), Takes (X.tr pn xe) W → PassesOwn (model X.prog X.w) X.A X.env xe → PSs (X.tr pn xe) body (tb W)) (hh : HdG X (h₀ :: hds) l) :
    L2.PS X (.Try body (h₀ :: hds) [] [] pos) (fun D σ H => tb (wGen X.K Wout D l) D σ H) := by
  refine ⟨fun pins s σ H D I h => ?_⟩
  have ok := I.ok
  have frm : X.A.frames = some (X.env :: X.outer) := by rw [ok.frames, hs]
  let caught : Value → Shared → Prop := fun e s₁ => wpAny (model X.prog X.w) X.A (noteFrame e X.env) (fun _ s₂ =>
    wpAny (model X.prog X.w) X.A (setFlight e none) (fun _ s₃ => wpAny (model X.prog X.w) X.A (handleBy e X.env (h₀ :: hds)) (SP X pins D) X.xe s₃) X.xe s₂) X.xe s₁
  have runs := hb (wGen X.K Wout D l) (X.pn ++ pins) caught
  refine wpAny_Try_except (wpAny_mono ((runs (fun u s' xx => ?_) PassesOwn.looking).run [] s σ H D (I.toTry _) h) (fun f s1 hsp => ?_) fun _ _ he => he)
  · obtain ⟨a, Bh, sI, pins', σ', H', cls, d, rfl, J', nb, up, sky, na, os, ag, w⟩ := xx
    have J : Inv X pins σ' H' sI := J'.ofTry ok
    rw [hs] at sky
    show wpAny (model X.prog X.w) X.A (noteFrame (.ref a) X.env) _ _ _
    refine Sky.land Zc.steady frm hf sky fun h3 fl3 up3 => ?_
    have up13 := up.trans up3
    have J3 : Inv X pins σ' H' { s' with heap := h3 } := J.landed nb fl3.1 up13 os ag
    obtain ⟨oe3, vs3, he3, hz3, hd3⟩ := fl3.there
    have noFrame : a ∉ frs (X.env :: X.outer) := fun hm => by
      obtain ⟨_, o', e', hnf⟩ := fl3.2.2.1.mem hm
      rw [he3] at e'
      cases e'
      exact hnf _ hd3
    have nL : a ≠ X.env.locals := fun z => noFrame (List.mem_filterMap.mpr ⟨X.env, List.mem_cons_self, by rw [hf, z]⟩)
    have nF : a ∉ X.fs := fun hm => by
      obtain ⟨e, he, q⟩ := List.mem_filterMap.mp hm
      exact noFrame (List.mem_filterMap.mpr ⟨e, List.mem_cons_of_mem _ he, q⟩)
    have inSuite : ∀ {oe : Obj} {vs : Array Value} {h4 : Heap}, h4.get? a = some oe → oe.data = .fields vs → Inv X pins σ' H' { s' with heap := h4 } → Inv (X.suite a ((a, oe) :: (X.pn ++ pins))) [] σ' H' { s' with heap := h4 } := fun e dd Jx => Jx.suite e dd na nL nF
    have S3 := inSuite he3 hd3 J3
    have typ : PySem.W.Looks (model X.prog X.w) h3 (typeOf (.ref a)) cls := fun A Q E s k q => wpAny_typeOf_ref (k _ _ he3) (by rw [hz3.1]; exact q)
    have named : ∀ {x : Str} {c : Value} {np : Pos} {Q : Value → Shared → Prop} {E : Value → Shared → Prop}, Names X x c → Q c { s' with heap := h3 } → wpAny (model X.prog X.w) (X.A.mark (some (.ref a))) (eval (.Name x np) X.env) Q E { s' with heap := h3 } := fun hc q => by
      obtain ⟨hg, hdbg, hm | ⟨hm, hv, hnn⟩⟩ := hc
      · exact ld_glob (X := X.suite a ((a, oe3) :: (X.pn ++ pins))) S3 hg hm q hdbg
      · exact ld_blt (X := X.suite a ((a, oe3) :: (X.pn ++ pins))) S3 hg hm hv q hnn hdbg
    have go : ∀ {hs' : List ExceptHandler} {l' : List HdL}, HdG X hs' l' → wGen X.K Wout D l' cls d σ' H' → wpAny (model X.prog X.w) X.A (handleBy (.ref a) X.env hs') (SP X pins D) X.xe { s' with heap := h3 } := by
      intro hs' l' hk
      induction hk with
      | nil =>
        intro w
        refine wpAny_handleBy_nil ?_
        obtain ⟨k1, k2, k3, oe, vs, T, oT, ts', he, hz, hd, h1, hr⟩ := id fl3
        unfold PySem.passOn
        refine wpAny_bind (wpAny_field he hd h1 ?_)
        rw [if_neg (show ¬ ((Value.ref T == Value.none) = true) from by simp)]
        have out : wpAny (model X.prog X.w) X.A (setFlight (.ref a) X.env.frame) (fun _ s4 => wpAny (model X.prog X.w) X.A (throw (.ref a) : PySem.Sem Flow) (SP X pins D) X.xe s4) X.xe { s' with heap := h3 } := by
          rw [hf]
          refine HandSPX.setFlight_upZ fl3 fun h4 hh4 up4 => wpAny_throw (tk _ _ ⟨a, Bh, sI, pins, σ', H', cls, d, rfl, J, nb, up13.trans up4, .inr (.inr (by rw [hs]; exact hh4)), na, os, ag, w⟩)
        first
          | exact wpAny_bind (wpAny_pure (wpAny_bind out))
          | exact wpAny_bind out
      | @cons x c ts b₀ suite np p' hds2 l2 hc hsu r ih =>
        intro w
        obtain ⟨b, hb1, hyes, hno⟩ := w
        refine wpAny_handleBy_cons (codeAny_handlers_test (named hc ((PySem.W.exm_one J3.kIn typ hb1).here ?_))) (by intro q; cases q)
        cases b with
        | true =>
          refine codeAny_handlers_suite (HandSPX.lands_againZ fl3 fun h4 fl4 up4 => ?_)
          obtain ⟨oe4, vs4, he4, hz4, hd4⟩ := fl4.there
          have S4 := inSuite he4 hd4 (J.landed nb fl4.1 (up13.trans up4) os ag)
          refine wpAny_mono ((hsu a oe4 cls d (X.pn ++ pins) hz4 ⟨_, hd4⟩).run [] _ _ H' _ S4 (hyes rfl a na)) (fun f s6 hsp => ?_) (fun _ _ z => z.elim)
          cases f with
          | ret u =>
            obtain ⟨v6, σ6, H6, S6, r6, q6⟩ := hsp
            exact ⟨_, _, _, S6.unsuite ok, r6, q6⟩
          | next =>
            obtain ⟨σ6, H6, S6, q6⟩ := hsp
            exact ⟨_, _, S6.unsuite ok, q6⟩
          | brk =>
            obtain ⟨σ6, H6, S6, q6⟩ := hsp
            exact ⟨_, _, S6.unsuite ok, q6⟩
          | cont =>
            obtain ⟨σ6, H6, S6, q6⟩ := hsp
            exact ⟨_, _, S6.unsuite ok, q6⟩
        | false =>
          show wpAny _ X.A (handleBy (.ref a) X.env hds2) _ _ _
          exact ih (hno rfl)
      | @named x n i c ts b₀ suite np p' hds2 l2 hc hN hi hln hsu r ih =>
        intro w
        obtain ⟨b, hb1, hyes, hno⟩ := w
        refine wpAny_handleBy_cons (codeAny_handlers_test (named hc ((PySem.W.exm_one J3.kIn typ hb1).here ?_))) (by intro q; cases q)
        cases b with
        | true =>
          refine codeAny_handlers_suite_as (HandSPX.lands_againZ fl3 fun h4 fl4 up4 => ?_)
          obtain ⟨oe4, vs4, he4, hz4, hd4⟩ := fl4.there
          have S4 := inSuite he4 hd4 (J.landed nb fl4.1 (up13.trans up4) os ag)
          refine store_ok (X := X.suite a ((a, oe4) :: (X.pn ++ pins))) (v := .ref a) S4 hN hi (.inl hln) rfl (fun s5 S5 => ?_) (.inr hln)
          refine wpAny_mono ((hsu a oe4 cls d (X.pn ++ pins) hz4 ⟨_, hd4⟩).run [] s5 _ H' _ S5 (hyes rfl a na)) (fun f s6 hsp => ?_) (fun _ _ z => z.elim)
          have leave : ∀ {σ6 : L2.St} {H6 : Hp} {Q : Shared → Prop}, Inv (X.suite a ((a, oe4) :: (X.pn ++ pins))) [] σ6 H6 s6 → (∀ s7, Inv X pins (σ6.set i none) H6 s7 → Q s7) →
              wpAny (model X.prog X.w) X.A (do bindName X.env n .none; unbindBehindTheSuite X.env n p') (fun _ s7 => Q s7) X.xe s6 := fun S6 hq => gone_ok (S6.unsuite ok) hN hi hln hq
          cases f with
          | ret u =>
            obtain ⟨v6, σ6, H6, S6, r6, q6⟩ := hsp
            exact leave S6 fun s7 J7 => ⟨_, _, _, J7, r6, q6⟩
          | next =>
            obtain ⟨σ6, H6, S6, q6⟩ := hsp
            exact leave S6 fun s7 J7 => ⟨_, _, J7, q6⟩
          | brk =>
            obtain ⟨σ6, H6, S6, q6⟩ := hsp
            exact leave S6 fun s7 J7 => ⟨_, _, J7, q6⟩
          | cont =>
            obtain ⟨σ6, H6, S6, q6⟩ := hsp
            exact leave S6 fun s7 J7 => ⟨_, _, J7, q6⟩
        | false =>
          show wpAny _ X.A (handleBy (.ref a) X.env hds2) _ _ _
          exact ih (hno rfl)
    exact go hh w
  · cases f with
    | ret u =>
      obtain ⟨v, σ', H', J', r, q⟩ := hsp
      exact ⟨v, σ', H', J'.ofTry ok, r, q⟩
    | next =>
      obtain ⟨σ', H', J', q⟩ := hsp
      exact wpAny_execs_nil ⟨σ', H', J'.ofTry ok, q⟩
    | brk =>
      obtain ⟨σ', H', J', q⟩ := hsp
      exact ⟨σ', H', J'.ofTry ok, q⟩
    | cont =>
      obtain ⟨σ', H', J', q⟩ := hsp
      exact ⟨σ', H', J'.ofTry ok, q⟩
end
end Sm
set_option Elab.async false
set_option linter.all false
set_option maxRecDepth 100000
set_option maxHeartbeats 1000000
namespace Sm
open PySem PySem.Spec PyProof.Rows L2
abbrev SHd := Value × Option Nat × (Addr → Value → Option Addr → SemS)
def noEx (D : EndP) : EndP := { D with ex := fun _ _ _ => False }
def clrP (i : Nat) (D : EndP) : EndP := { nx := fun ρ st => D.nx (ρ.set i none) st, rt := D.rt, bk := fun ρ st => D.bk (ρ.set i none) st, ct := fun ρ st => D.ct (ρ.set i none) st, ex := fun _ _ _ => False }
def hnd (K : PySem.W.Frag) (D : EndP) : List SHd → Exn → Env → Store → Prop
  | [], e, ρ, st => D.ex e ρ st
  | (c, o, f) :: r, e, ρ, st => ∃ b, PySem.W.exmOne K (.ref e.cls) c = some b ∧ (b = true → ∀ a d, match o with
      | none => f a (.ref e.cls) (some d) (noEx D) ρ st
      | some i => f a (.ref e.cls) (some d) (clrP i D) (ρ.set i (some (.exc a d e.fld e.val))) st) ∧ (b = false → hnd K D r e ρ st)
abbrev W0 : WX := fun _ _ _ _ => False
inductive JHd (X : Cx) (T : List (Addr × Str)) : List ExceptHandler → List SHd → Prop
  | nil : JHd X T [] []
  | cons {x : Str} {c : Value} {f : Addr → Value → Option Addr → SemS} {b₀ : Stmt} {suite : List Stmt} {np p' : Pos} {hds : List ExceptHandler} {l : List SHd} (hc : Names X x c)
      (hsu : ∀ (a : Addr) (oe : Obj) (cls : Value) (d : Option Addr) (pn : List (Addr × Obj)), Zc cls d oe → (∃ vs, oe.data = .fields vs) → JSs (X.suite a ((a, oe) :: pn)) T W0 (b₀ :: suite) (f a cls d)) (r : JHd X T hds l) :
      JHd X T (.ExceptHandler (some (.Name x np)) none (b₀ :: suite) p' :: hds) ((c, none, f) :: l)
  | named {x n : Str} {i : Nat} {c : Value} {f : Addr → Value → Option Addr → SemS} {b₀ : Stmt} {suite : List Stmt} {np p' : Pos} {hds : List ExceptHandler} {l : List SHd} (hc : Names X x c) (hN : X.N.Nodup) (hi : X.N[i]? = some n) (hln : X.env.kindOf n = some .local)
      (hsu : ∀ (a : Addr) (oe : Obj) (cls : Value) (d : Option Addr) (pn : List (Addr × Obj)), Zc cls d oe → (∃ vs, oe.data = .fields vs) → JSs (X.suite a ((a, oe) :: pn)) T W0 (b₀ :: suite) (f a cls d)) (r : JHd X T hds l) :
      JHd X T (.ExceptHandler (some (.Name x np)) (some n) (b₀ :: suite) p' :: hds) ((c, some i, f) :: l)
def hdT (K : PySem.W.Frag) (T : List (Addr × Str)) : List SHd → List HdL
  | [] => []
  | (c, o, f) :: r => (c, o, fun a cls d => tS K T W0 (f a cls d)) :: hdT K T r
theorem JHd.hd {X : Cx} {T : List (Addr × Str)} {hds : List ExceptHandler} {l : List SHd} (h : JHd X T hds l) : HdG X hds (hdT X.K T l) := by
  induction h with
  | nil => exact .nil
  | @cons x c f b₀ suite np p' hds l hc hsu r ih => exact HdG.cons (ts := fun a cls d => tS X.K T W0 (f a cls d)) hc hsu ih
  | @named x n i c f b₀ suite np p' hds l hc hN hi hln hsu r ih => exact HdG.named (ts := fun a cls d => tS X.K T W0 (f a cls d)) hc hN hi hln hsu ih
section
variable {X : Cx} {T : List (Addr × Str)} {body : List Stmt} {h₀ : ExceptHandler} {hds : List ExceptHandler} {l : List SHd} {pos : Pos} {t : SemS} {W : WX}
theorem hnd_ok {K : PySem.W.Frag} {D : EndP} {D' : Ends} {m : List Addr} {H : Hp} (fin : FinS K T W m H D D') : ∀ (l : List SHd) (e : Exn) (ρ : Env) (st : Store), hnd K D l e ρ st → ∀ cls d σ m' H', Grow m H m' H' → Rel K T m' st H' → RS K m' H' σ ρ → ExR K m' H' cls d e →
    wGen K W D' (hdT K T l) cls d σ H'
  | [], e, ρ, st, h, cls, d, σ, m', H', g, r, rs, ex => fin.ex e ρ st h cls d σ m' H' g r rs ex
  | (c, o, f) :: r, e, ρ, st, h, cls, d, σ, m', H', g, rl, rs, ex => by
    obtain ⟨b, h1, h2, h3⟩ := h
    obtain ⟨rfl, dd, x, rfl, hd, rv⟩ := id ex
    refine ⟨b, h1, fun hb a ha => ?_, fun hb => hnd_ok fin r e ρ st (h3 hb) _ _ σ m' H' g rl rs ex⟩
    have f2 := fin.step g
    have hq := h2 hb a dd
    cases o with
    | none => exact ⟨ρ, st, m', _, rs, rl, hq, ⟨f2.nx, f2.rt, f2.bk, f2.ct, fun _ _ _ p => p.elim⟩⟩
    | some i =>
      refine ⟨_, st, m', _, rs.set i (.exc hd rv), rl, hq, ⟨?_, f2.rt, ?_, ?_, fun _ _ _ p => p.elim⟩⟩
      · exact fun ρ1 st1 p σ1 m1 H1 g1 r1 s1 => f2.nx _ st1 p _ m1 H1 g1 r1 (s1.clear i none)
      · exact fun ρ1 st1 p σ1 m1 H1 g1 r1 s1 => f2.bk _ st1 p _ m1 H1 g1 r1 (s1.clear i none)
      · exact fun ρ1 st1 p σ1 m1 H1 g1 r1 s1 => f2.ct _ st1 p _ m1 H1 g1 r1 (s1.clear i none)
end
/-- e.f of the caught exception -/
def sXf (a : Addr) (cls : Value) (d : Option Addr) (C : Addr) (n : Str) (f : Sem) : Sem := fun ρ st P PX => f ρ st (fun x st1 => match x with
  | .exc a' d' n' v => a' = a ∧ d = some d' ∧ n' = n ∧ cls = .ref C ∧ P v st1
  | _ => False) PX
theorem w_xf {X : Cx} {T : List (Addr × Str)} {a C : Addr} {oe : Obj} {cls : Value} {d : Option Addr} {pn : List (Addr × Obj)} {e : Expr} {f : Sem} {pos : Pos} {n : Str} (XT : XfC X.K C) (hno : PySem.W.findIn X.K (.ref C) n = some none)
    (hz : Zc cls d oe) (hf : ∃ vs, oe.data = .fields vs) (he : JE (X.suite a ((a, oe) :: pn)) T W0 e f) (hb : attributeBase e n X.env (eval e X.env) = eval e X.env := by rfl) :
    JE (X.suite a ((a, oe) :: pn)) T W0 (.Attribute e n pos) (sXf a cls d C n f) := PE.imp (pe_xf XT hno hz hf he hb) fun σ H Q h => by
  obtain ⟨ρ, st, m, P, PX, rs, rel, hq, fin, finx⟩ := h
  refine ⟨ρ, st, m, _, PX, rs, rel, hq, fun v st1 hv x m1 H1 g1 rel1 rv1 => ?_, finx⟩
  dsimp only at hv
  split at hv
  · obtain ⟨rfl, rfl, rfl, rfl, hv⟩ := hv
    cases rv1 with
    | @exc _ _ _ y _ h1 h2 => exact ⟨rfl, rfl, _, _, y, rfl, h1, by simp [List.lookup], fin _ st1 hv _ m1 H1 g1 rel1 h2⟩
  · exact hv.elim
def sBits (f : Sem) : Sem := fun ρ st P PX => f ρ st (fun x st1 => match x with
  | .int i => P (.int (Builtin.Int.intBits i : Nat)) st1
  | _ => False) PX
theorem w_bits {X : Cx} {T : List (Addr × Str)} {W : WX} {o : Expr} {f : Sem} {apos pos : Pos} (ho : JE X T W o f) (hbase : attributeBase o "bit_length" X.env (eval o X.env) = eval o X.env := by rfl) (hline : (apos.endLine == pos.line) = true := by rfl) :
    JE X T W (.Call (.Attribute o "bit_length" apos) [] [] pos) (sBits f) := PE.imp (pe_bits ho hbase hline) fun σ H Q h => by
  obtain ⟨ρ, st, m, P, PX, rs, rel, hq, fin, finx⟩ := h
  refine ⟨ρ, st, m, _, PX, rs, rel, hq, fun v st1 hv x m1 H1 g1 rel1 rv1 => ?_, finx⟩
  cases rv1 <;> first | exact hv.elim | skip
  exact ⟨_, rfl, fin _ st1 hv _ m1 H1 g1 rel1 (.int _)⟩
theorem RVs.rep {K : PySem.W.Frag} {m : List Addr} {H : Hp} {xs : List V} {vs : List PV} (r : RVs K m H xs vs) : ∀ k : Nat, RVs K m H (List.replicate k xs).flatten (List.replicate k vs).flatten
  | 0 => .nil
  | k + 1 => by
    rw [List.replicate_succ, List.replicate_succ, List.flatten_cons, List.flatten_cons]
    exact r.append (RVs.rep r k)
end Sm
set_option Elab.async false
set_option linter.all false
set_option maxRecDepth 100000
set_option maxHeartbeats 1000000
namespace Sm
open PySem PySem.Spec PyProof.Rows L2
/-- str(n) -/
def oStr : SCall := fun vs st P => match vs with
  | [.int i] => i.natAbs.log2 < 1920 ∧ P (.str (toString i)) st
  | _ => False
theorem cs_str {K : PySem.W.Frag} {T : List (Addr × Str)} : CallS K T (fun xs H Q => ∃ i, xs = [.int i] ∧ i.natAbs.log2 < 1920 ∧ Q (.str (toString i)) H) oStr := fun xs vs m H st P Q rel rv h fin => by
  unfold oStr at h
  split at h
  · obtain ⟨x, rfl, r⟩ := rv.one
    cases r
    exact ⟨_, rfl, h.1, fin _ st h.2 _ m H Grow.refl rel (.str _)⟩
  · exact h.elim
def wipeE (ρ : Env) : List Nat → Env
  | [] => ρ
  | v :: vs => (wipeE ρ vs).set v none
theorem wipe_rs {K : PySem.W.Frag} {m : List Addr} {H : Hp} {σ : L2.St} {ρ : Env} (r : RS K m H σ ρ) : ∀ vs : List Nat, RS K m H (wipe σ vs) (wipeE ρ vs)
  | [] => r
  | v :: vs => (wipe_rs r vs).clear v none
/-- the items one behind the other; c: the test; the new list is the handle n -/
def compL (i n : Nat) (c : SemT) (f : Sem) (P : PK) : List PV → Env → Store → Prop
  | [], _, st => P (.hd n) st
  | x :: r, ρ, st => c (ρ.set i (some x)) st (fun b st1 => match b with
      | true => f (ρ.set i (some x)) st1 (fun v st2 => match st2[n]? with
        | some (.lst acc) => acc.length < 100000 ∧ compL i n c f P r ρ (st2.set n (.lst (acc ++ [v])))
        | _ => False) (fun _ _ => False)
      | false => compL i n c f P r ρ st1) (fun _ _ => False)
def sYes : SemT := fun _ st P _ => P true st
def signsOf (x : Str) : List PV := x.cps.toList.map fun c => .str ⟨#[c]⟩
def itemsS : PV → Option (List PV)
  | .str x => some (signsOf x)
  | _ => none
def sLc (it : PV → Option (List PV)) (fi : Sem) (i : Nat) (c : SemT) (f : Sem) : Sem := fun ρ st P PX => fi ρ st (fun v st1 => match it v with
  | some l => compL i st1.length c f P l (wipeE ρ [i]) (st1 ++ [.lst []])
  | none => False) PX
section
variable {K : PySem.W.Frag} {T : List (Addr × Str)} {W : WX}
/-- one turn -/
theorem comp_turn {i n : Nat} {c : SemT} {f : Sem} {P : PK} {x : PV} {xv : V} {r : List PV} {ρ : Env} {σ : L2.St} {m : List Addr} {H : Hp} {st : Store} {D : Addr} {Nx : Hp → Prop} (rs : RS K m H σ ρ) (rel : Rel K T m st H) (rx : RV K m H xv x) (hD : m[n]? = some D)
    (h : compL i n c f P (x :: r) ρ st) (hn : ∀ st' m' H', Grow m H m' H' → Rel K T m' st' H' → m'[n]? = some D → compL i n c f P r ρ st' → Nx H') :
    tT K T W0 c (σ.set i (some xv)) H fun b H3 => if b = true then tE K T W0 f (σ.set i (some xv)) H3 fun y H4 => ∃ acc, H4 D = some (.lst acc) ∧ acc.length < sizeLine ∧ Nx (upd H4 D (.lst (acc ++ [y]))) else Nx H3 := by
  refine ⟨_, st, m, _, _, rs.set i rx, rel, h, fun b st1 hb m1 H1 g1 rel1 => ?_, fun _ _ p => p.elim⟩
  cases b with
  | true =>
    rw [if_pos rfl]
    refine ⟨_, st1, m1, _, _, (rs.set i rx).grow rel g1, rel1, hb, fun v st2 hv y m2 H2 g2 rel2 ry => ?_, fun _ _ p => p.elim⟩
    dsimp only at hv
    split at hv
    · rename_i acc hacc
      have hD2 := get_grow g2 (get_grow g1 hD)
      obtain ⟨ys, hq, hys⟩ := rel2.ob _ _ _ hD2 hacc
      have g3 : Grow m2 H2 m2 (L2.upd H2 D (.lst (ys ++ [y]))) := Grow.upd hD2 hq
      exact ⟨ys, hq, Nat.lt_of_lt_of_le (by rw [hys.length]; exact hv.1) (by decide), hn _ m2 _ ((g1.trans g2).trans g3) (rel2.upd hD2 hq (hys.append (.cons ry .nil))) hD2 hv.2⟩
    · exact hv.elim
  | false =>
    rw [if_neg Bool.false_ne_true]
    exact hn st1 m1 H1 g1 rel1 (get_grow g1 hD) hb
theorem wipe_one (σ : L2.St) (i : Nat) (x : Option V) : wipe ((wipe σ [i]).set i x) [i] = wipe σ [i] := by
  simp [wipe]
end
section
variable {X : Cx} {T : List (Addr × Str)} {W : WX} {elt iter : Expr} {ifs : List Expr} {scope : Scope} {x : Str} {i : Nat} {p pos : Pos} {fi f : Sem} {c : SemT}
abbrev BlkE (X : Cx) (T : List (Addr × Str)) (scope : Scope) (e : Expr) (f : Sem) : Prop := ∀ (s : Shared) (H : Hp) (C : Addr) (cl : List (Str × Addr)) (fp : List Addr), JE (X.blk s H scope (compEnvC scope cl C X.env) fp) T W0 e f
abbrev BlkT (X : Cx) (T : List (Addr × Str)) (scope : Scope) (ifs : List Expr) (c : SemT) : Prop := ∀ (s : Shared) (H : Hp) (C : Addr) (cl : List (Str × Addr)) (fp : List Addr), PTs (X.blk s H scope (compEnvC scope cl C X.env) fp) ifs (tT X.K T W0 c)
abbrev BlkG (X : Cx) (scope : Scope) (tg : Expr) (i : Nat) : Prop := ∀ (s : Shared) (H : Hp) (C : Addr) (cl : List (Str × Addr)) (fp : List Addr), PG (X.blk s H scope (compEnvC scope cl C X.env) fp) tg (gName i)
theorem PTs.imp {X : Cx} {e : List Expr} {t t' : TT} (h : PTs X e t) (j : ∀ σ H Q, t' σ H Q → t σ H Q) : PTs X e t' := ⟨fun pins s σ H Q I q => h.run pins s σ H Q I (j σ H Q q)⟩
theorem blk_yes : BlkT X T scope [] sYes := fun s H C cl fp => PTs.imp pts_nil fun σ H Q h => by
  obtain ⟨ρ, st, m, P, PX, rs, rel, hq, fin, finx⟩ := h
  exact fin true st hq m H Grow.refl rel
theorem blk_if {e : Expr} (h : ∀ (s : Shared) (H : Hp) (C : Addr) (cl : List (Str × Addr)) (fp : List Addr), JT (X.blk s H scope (compEnvC scope cl C X.env) fp) T W0 e c) : BlkT X T scope [e] c := fun s H C cl fp => pts_one (h s H C cl fp)
/-- the start of the block's list, as a handle -/
theorem comp_start {m1 : List Addr} {H1 : Hp} {st1 : Store} {D : Addr} (rel1 : Rel X.K T m1 st1 H1) (hD : H1 D = none) : Grow m1 H1 (m1 ++ [D]) (upd H1 D (.lst [])) ∧ Rel X.K T (m1 ++ [D]) (st1 ++ [.lst []]) (upd H1 D (.lst [])) ∧ (m1 ++ [D])[st1.length]? = some D :=
  ⟨Grow.hand rel1 hD, rel1.hand hD .nil, get_hand rel1⟩
theorem sign_drop (z : Str) (k : Nat) (h : k < z.cps.size) : (signsOf z).drop k = .str ⟨#[z.cps[k]]⟩ :: (signsOf z).drop (k + 1) := by
  have hl : k < (signsOf z).length := by simpa [signsOf] using h
  rw [List.drop_eq_getElem_cons hl]
  congr 1
  simp [signsOf]
theorem w_lcS (hc : X.calm = true) (hN : X.N.Nodup) (he : JE X T W iter fi) (ok : BlkOk X.N X.env.scope scope [(x, i)]) (hg : BlkG X scope (.Name x p) i) (ht : BlkT X T scope ifs c) (hel : BlkE X T scope elt f)
    (hs : ∀ y, foldedSetIterable iter X.env y = pure y := by intro _; rfl) : JE X T W (.ListComp elt [⟨.Name x p, iter, ifs, 0⟩] scope pos) (sLc itemsS fi i c f) := PE.imp (pe_lc hc hN (pi_str he) ok hg ht hel hs) fun σ H Q h => by
  obtain ⟨ρ, st, m, P, PX, rs, rel, hq, fin, finx⟩ := h
  refine ⟨ρ, st, m, _, PX, rs, rel, hq, fun v st1 hv xv m1 H1 g1 rel1 rv1 => ?_, finx⟩
  cases rv1 <;> first | exact hv.elim | skip
  rename_i z
  refine ⟨z, rfl, fun D hD => ?_⟩
  obtain ⟨gs, rels, hDs⟩ := comp_start rel1 hD
  have hw := wipe_rs ((rs.grow rel g1).grow rel1 gs) [i]
  refine ⟨fun k mm H2 => mm = z.cps.size - k ∧ k ≤ z.cps.size ∧ ∃ st2 m2, Rel X.K T m2 st2 H2 ∧ Grow (m1 ++ [D]) (upd H1 D (.lst [])) m2 H2 ∧ m2[st1.length]? = some D ∧ compL i st1.length c f P ((signsOf z).drop k) (wipeE ρ [i]) st2, ⟨_, rfl, Nat.zero_le _, _, _, rels, Grow.refl, hDs, hv⟩, ?_⟩
  rintro k mm H2 ⟨rfl, hk, st2, m2, rel2, g2, hD2, hcl⟩
  by_cases hlt : k < z.cps.size
  · refine .inr ⟨hlt, fun H3 => ∃ st2 m2, Rel X.K T m2 st2 H3 ∧ Grow (m1 ++ [D]) (upd H1 D (.lst [])) m2 H3 ∧ m2[st1.length]? = some D ∧ compL i st1.length c f P ((signsOf z).drop (k + 1)) (wipeE ρ [i]) st2, fun H3 h3 => ⟨_, by omega, rfl, hlt, h3⟩, fun y H3 hy => ?_⟩
    obtain ⟨rfl, cc, hcc, rfl⟩ := hy
    rw [sign_drop z k hlt] at hcl
    have e : cc = z.cps[k] := by
      rw [Array.getElem?_eq_getElem hlt] at hcc
      exact (Option.some.inj hcc).symm
    subst e
    exact ⟨wipe_one σ i _, comp_turn (hw.grow rels g2) rel2 (.str _) hD2 hcl fun st3 m3 H3 g3 rel3 hD3 h3 => ⟨st3, m3, rel3, g2.trans g3, hD3, h3⟩⟩
  · refine .inl ⟨by show z.cps.size ≤ k; omega, ?_⟩
    rw [List.drop_eq_nil_of_le (by simp [signsOf]; omega)] at hcl
    exact fin _ st2 hcl _ m2 H2 ((g1.trans gs).trans g2) rel2 (.hd hD2 (g2.kd _ _ ⟨_, upd_same, rfl⟩))
end
end Sm
set_option Elab.async false
set_option linter.all false
set_option maxRecDepth 100000
set_option maxHeartbeats 1000000
namespace Sm
open PySem PySem.Spec PyProof.Rows L2
def oAllH : SCall := fun vs st P => match vs with
  | [.hd n] => match st[n]? with
    | some (.lst l) => match allB l with
      | some b => P (.bl b) st
      | _ => False
    | _ => False
  | _ => False
theorem cs_allH {K : PySem.W.Frag} {T : List (Addr × Str)} : CallS K T (rAll K) oAllH := fun xs vs m H st P Q rel rv h fin => by
  unfold oAllH at h
  split at h
  · split at h
    · rename_i hst
      split at h
      · rename_i hn
        obtain ⟨x, rfl, r⟩ := rv.one
        cases r with
        | hd ha _ =>
          obtain ⟨ys, hq, hs⟩ := rel.ob _ _ _ ha hst
          obtain ⟨bs, rfl, rfl⟩ := allB_of hs hn
          exact ⟨_, bs, rfl, SqL.of hq, fin _ st h _ m H Grow.refl rel (.bl _)⟩
      · exact h.elim
    · exact h.elim
  · exact h.elim
structure Gd (P : Program) (w : World) (K : PySem.W.Frag) (T : List (Addr × Str)) (mg : Str → Option Value) (base : Heap) (gd : Bool) (k : Nat) (x : Str) (ps : List Str) (dv : List PV) (S : SpecF) : Prop where
  ex : ∃ (f : Addr) (fd : FuncData) (ds : List Value) (dvs : List V), mg x = some (.ref f) ∧ PySem.W.keepIn K (.ref f) = true ∧ Binds K fd ps ds ∧ Vals dvs ds ∧ (∀ m H, RVs K m H dvs dv) ∧ FnG P w K T mg base gd k f fd ps S
section
variable {X : Cx} {T : List (Addr × Str)} {W : WX} {gd gd' : Bool} {k j : Nat} {ps : List Str} {S : SpecF} {dv : List PV} {x : Str} {p pos : Pos} {e : Expr} {es : List Expr} {g : SemA}
theorem w_cg (G : Gd X.prog X.w X.K T X.mg X.base gd k x ps dv S) (hr : Room j X.A) (hkj : k ≤ j) (hgd : Gu gd X.A) (tk : Takes X W) (ha : JA X T W (e :: es) g) (hg : Gl X x := by rfl) (hdb : (x == ("__debug__" : Str)) = false := by decide) (he : starEach (e :: es) X.env = (false, eval e X.env) :: starEach es X.env := by rfl)
    (hpl : (backTo pos (starEach es X.env)).any (·.1) = false := by rfl) : JE X T W (.Call (.Name x p) (e :: es) [] pos) (sCall S dv g) := by
  obtain ⟨f, fd, ds, dvs, h1, h2, h3, h4, h5, F⟩ := G.ex
  exact w_call F (hr.mono hkj) hgd hg h1 h2 h3 h4 h5 tk ha hdb he hpl
end
/-- what the head tells of a def -/
def Fc (K : PySem.W.Frag) (mg : Str → Option Value) (x : Str) (s : List Stmt × Arguments × Scope) (dvs : List V) : Prop := ∃ f fd, FunD K x x s.2.1 s.1 s.2.2 dvs [] f fd ∧ mg x = some (.ref f)
section
variable {P : Program} {w : World} {K : PySem.W.Frag} {T : List (Addr × Str)} {mg : Str → Option Value} {base : Heap} {x : Str} {s : List Stmt × Arguments × Scope} {N ps : List Str} {gd : Bool} {k : Nat} {S : SpecF}
theorem g_def (F : Fc K mg x s []) (Sc : FnScope N ps s.2.2) (bnd : ∀ (kV doc pm : Value) (an : Option Addr) (cdv ct : Value) (us : List Value), us.length = ps.length → bindArgs (PySem.W.fnOf x x s.2.1 s.1 s.2.2 .none kV doc pm an cdv ct) ⟨us, []⟩ = pure (ps.zip us))
    (len : ∀ pvs st Q PX, S pvs st Q PX → pvs.length = ps.length)
    (hbody : ∀ (f : Addr) (cdv : Value) (A : Around) (outer : List PySem.Env) (sh : Shared) (H : Hp) (E : XK), Room k (A.deeper (envOfC x s.2.2 sh.heap.objs.size f cdv)) → Gu gd (A.deeper (envOfC x s.2.2 sh.heap.objs.size f cdv)) →
      ∃ t : SemS, JSs (cxOf (L2.CX P w) P w K mg base N x s.2.2 f cdv A outer sh H E) T (fun cls d _ H' => E cls d H') s.1 t ∧ ∀ pvs st Q PX, S pvs st Q PX → t (endOf Q PX) (ini N pvs) st) :
    Gd P w K T mg base gd (k + 1) x ps [] S := by
  obtain ⟨f, fd, F, hm⟩ := F
  exact ⟨f, fd, [], [], hm, F.kp, F.bindsN bnd, .nil, fun _ _ => .nil, g_of F Sc len fun cdv A outer sh H E => hbody f cdv A outer sh H E⟩
end
theorem hu_of4 {k : Nat} {A : Around} (hr : Room k A) : A.units + 64 < cLine := by
  have := hr.un
  omega
end Sm
set_option Elab.async false
set_option linter.all false
set_option maxRecDepth 100000
set_option maxHeartbeats 1000000
namespace Sm
open PySem PySem.Spec PyProof.Rows L2
theorem Grow.ext {m : List Addr} {H H1 : Hp} (e : LamX.ExtN H H1) : Grow m H m H1 := ⟨⟨[], by simp, by simp⟩, fun a o h _ nt => e a o h nt, fun a o h nt => ⟨o, e a o h nt, nt⟩, fun a n ⟨o, h, q⟩ => ⟨o, e a o h (fun ps z => by subst z; cases q), q⟩⟩
theorem Rel.ext {K : PySem.W.Frag} {T : List (Addr × Str)} {m : List Addr} {st : Store} {H H1 : Hp} (r : Rel K T m st H) (e : LamX.ExtN H H1) (t : LamX.Tabs T H1) : Rel K T m st H1 :=
  ⟨r.len, r.nd, fun n a ob h1 h2 => by
    obtain ⟨u, hu, hk⟩ := r.atH (List.mem_of_getElem? h1)
    exact (r.ob n a ob h1 h2).move r (Grow.ext e) fun u' e' => e a u' e' (isHd_nt (by rw [hu] at e'; cases e'; exact hk)), t⟩
theorem takes_len {X : Cx} {W : WX} (tk : Takes X W) : Takes X (fun c d σ H => σ.length = X.N.length → W c d σ H) := fun u s' ⟨a, B, sI, pins, σ, H, cls, d, e, I, nb, up, sky, na, os, ag, w⟩ =>
  tk u s' ⟨a, B, sI, pins, σ, H, cls, d, e, I, nb, up, sky, na, os, ag, w I.len⟩
theorem rs_none {K : PySem.W.Frag} {m : List Addr} {H : Hp} {σ : L2.St} {n : Nat} (h : σ.length = n) : RS K m H σ (List.replicate n none) := ⟨by simp [h], fun i v e => by
  rw [List.getElem?_replicate] at e
  split at e <;> cases e⟩
end Sm
set_option Elab.async false
set_option linter.all false
set_option maxRecDepth 100000
set_option maxHeartbeats 1000000
namespace Sm
open PySem PySem.Spec PyProof.Rows L2
def ad (mg : Str → Option Value) (x : Str) : Addr := match mg x with
  | some (.ref f) => f
  | _ => 0
end Sm
set_option Elab.async false
set_option linter.all false
set_option maxRecDepth 100000
set_option maxHeartbeats 1000000
namespace Sm
open PySem PySem.Spec PyProof.Rows L2
theorem rvs_ints {K : PySem.W.Frag} {m : List Addr} {H : Hp} : ∀ l : List Int, RVs K m H (l.map V.int) (l.map PV.int)
  | [] => .nil
  | i :: l => .cons (.int i) (rvs_ints l)
section
variable {X : Cx} {T : List (Addr × Str)} {W : WX} {p pos : Pos} {x : Str} {e : Expr} {es : List Expr} {g : SemA}
theorem w_gi {i : Int} (h : ∃ t, X.mg x = some (.int i t)) (hg : Gl X x := by rfl) (hd : (x == ("__debug__" : Str)) = false := by decide) : JE X T W (.Name x pos) (sC (.int i)) := by
  obtain ⟨t, h⟩ := h
  exact w_glob (y := .int i) hg h ⟨t, rfl⟩ (fun _ _ => .int i) hd
theorem w_gs {z : Str} (h : ∃ t, X.mg x = some (.str z t)) (hg : Gl X x := by rfl) (hd : (x == ("__debug__" : Str)) = false := by decide) : JE X T W (.Name x pos) (sC (.str z)) := by
  obtain ⟨t, h⟩ := h
  exact w_glob (y := .str z) hg h ⟨t, rfl⟩ (fun _ _ => .str z) hd
end
/-- the names that stand for built-in things -/
def Fr (mg : Str → Option Value) (l : List Str) : Prop := ∀ x ∈ l, mg x = none
theorem bt_type : bootBuiltins "type" = some (.type "type") := by decide +kernel
theorem bt_int : bootBuiltins "int" = some (.type "int") := by decide +kernel
theorem bt_str : bootBuiltins "str" = some (.type "str") := by decide +kernel
theorem bt_tuple : bootBuiltins "tuple" = some (.type "tuple") := by decide +kernel
theorem bt_list : bootBuiltins "list" = some (.type "list") := by decide +kernel
theorem bt_len : bootBuiltins "len" = some (.builtin "len") := by decide +kernel
theorem bt_abs : bootBuiltins "abs" = some (.builtin "abs") := by decide +kernel
theorem bt_all : bootBuiltins "all" = some (.builtin "all") := by decide +kernel
theorem bt_max : bootBuiltins "max" = some (.builtin "max") := by decide +kernel
theorem bt_min : bootBuiltins "min" = some (.builtin "min") := by decide +kernel
theorem bt_isinstance : bootBuiltins "isinstance" = some (.builtin "isinstance") := by decide +kernel
section
variable {X : Cx} {T : List (Addr × Str)} {W : WX} {p pos : Pos} {e : Expr} {es : List Expr} {g : SemA}
theorem c_len (hm : X.mg "len" = none) (ha : JA X T W (e :: es) g) (hg : Gl X "len" := by rfl) (he : starEach (e :: es) X.env = (false, eval e X.env) :: starEach es X.env := by rfl) (hpl : (backTo pos (starEach es X.env)).any (·.1) = false := by rfl) :
    JE X T W (.Call (.Name "len" p) (e :: es) [] pos) (sCB oLen g) := w_callB (CallR.or call_len_seq call_len_str) cs_len hg hm bt_len ha (by decide) (by decide) he hpl
theorem c_abs (hm : X.mg "abs" = none) (ha : JA X T W (e :: es) g) (hg : Gl X "abs" := by rfl) (he : starEach (e :: es) X.env = (false, eval e X.env) :: starEach es X.env := by rfl) (hpl : (backTo pos (starEach es X.env)).any (·.1) = false := by rfl) :
    JE X T W (.Call (.Name "abs" p) (e :: es) [] pos) (sCB oAbs g) := w_callB call_abs cs_abs hg hm bt_abs ha (by decide) (by decide) he hpl
theorem c_int (hm : X.mg "int" = none) (ha : JA X T W (e :: es) g) (hg : Gl X "int" := by rfl) (he : starEach (e :: es) X.env = (false, eval e X.env) :: starEach es X.env := by rfl) (hpl : (backTo pos (starEach es X.env)).any (·.1) = false := by rfl) :
    JE X T W (.Call (.Name "int" p) (e :: es) [] pos) (sCB oInt g) := w_callTy call_int1 cs_int hg hm bt_int ha (by decide) (by decide) he hpl
theorem c_type (hm : X.mg "type" = none) (ha : JA X T W (e :: es) g) (hg : Gl X "type" := by rfl) (he : starEach (e :: es) X.env = (false, eval e X.env) :: starEach es X.env := by rfl) (hpl : (backTo pos (starEach es X.env)).any (·.1) = false := by rfl) :
    JE X T W (.Call (.Name "type" p) (e :: es) [] pos) (sCB oType g) := w_callTy call_typeC cs_type hg hm bt_type ha (by decide) (by decide) he hpl
theorem c_tuple (hm : X.mg "tuple" = none) (ha : JA X T W (e :: es) g) (hg : Gl X "tuple" := by rfl) (he : starEach (e :: es) X.env = (false, eval e X.env) :: starEach es X.env := by rfl) (hpl : (backTo pos (starEach es X.env)).any (·.1) = false := by rfl) :
    JE X T W (.Call (.Name "tuple" p) (e :: es) [] pos) (sCB oTuple g) := w_callTy call_tuple_of cs_tuple hg hm bt_tuple ha (by decide) (by decide) he hpl
theorem c_str (hm : X.mg "str" = none) (ha : JA X T W (e :: es) g) (hg : Gl X "str" := by rfl) (he : starEach (e :: es) X.env = (false, eval e X.env) :: starEach es X.env := by rfl) (hpl : (backTo pos (starEach es X.env)).any (·.1) = false := by rfl) :
    JE X T W (.Call (.Name "str" p) (e :: es) [] pos) (sCB oStr g) := w_callTy call_str_int cs_str hg hm bt_str ha (by decide) (by decide) he hpl
theorem c_all (hc : X.calm = true) (hm : X.mg "all" = none) (ha : JA X T W (e :: es) g) (hg : Gl X "all" := by rfl) (he : starEach (e :: es) X.env = (false, eval e X.env) :: starEach es X.env := by rfl) (hpl : (backTo pos (starEach es X.env)).any (·.1) = false := by rfl) :
    JE X T W (.Call (.Name "all" p) (e :: es) [] pos) (sCB oAllH g) := w_callB (cr_all hc) cs_allH hg hm bt_all ha (by decide) (by decide) he hpl
theorem c_max (hc : X.calm = true) (hm : X.mg "max" = none) (ha : JA X T W (e :: es) g) (hg : Gl X "max" := by rfl) (he : starEach (e :: es) X.env = (false, eval e X.env) :: starEach es X.env := by rfl) (hpl : (backTo pos (starEach es X.env)).any (·.1) = false := by rfl) :
    JE X T W (.Call (.Name "max" p) (e :: es) [] pos) (sCB oMax g) := w_callB (call_max2 hc) cs_max hg hm bt_max ha (by decide) (by decide) he hpl
theorem c_min (hc : X.calm = true) (hm : X.mg "min" = none) (ha : JA X T W (e :: es) g) (hg : Gl X "min" := by rfl) (he : starEach (e :: es) X.env = (false, eval e X.env) :: starEach es X.env := by rfl) (hpl : (backTo pos (starEach es X.env)).any (·.1) = false := by rfl) :
    JE X T W (.Call (.Name "min" p) (e :: es) [] pos) (sCB oMin g) := w_callB (call_min2 hc) cs_min hg hm bt_min ha (by decide) (by decide) he hpl
end
/-- an own error with one field, to be raised -/
def ExI (K : PySem.W.Frag) (mg : Str → Option Value) (x : Str) (f : String) : Prop := ∃ B newId initId bmB fI qi, SxO.ExT K B newId initId bmB (ad mg x) fI f qi ∧ SxO.FldOk f ∧ mg x = some (.ref (ad mg x))
section
variable {X : Cx} {T : List (Addr × Str)} {W : WX} {p pos pos2 : Pos} {a : Expr} {g : SemA} {x : Str} {f : String} {k : Nat}
theorem s_rz (hc : X.calm = true) (tk : Takes X W) (E : ExI X.K X.mg x f) (hr : Room k X.A) (ha : JA X T W [a] g) (hg : Gl X x := by rfl) (hdb : (x == ("__debug__" : Str)) = false := by decide)
    (he : starEach (a :: []) X.env = (false, eval a X.env) :: starEach [] X.env := by rfl) (hpl : (backTo pos (starEach [] X.env)).any (·.1) = false := by rfl) :
    JS X T W (.Raise (some (.Call (.Name x p) [a] [] pos)) none pos2) (sRaise (ad X.mg x) f g) := by
  obtain ⟨B, newId, initId, bmB, fI, qi, ET, FO, hm⟩ := E
  exact s_raise hc tk ET FO hr hm ha hg hdb he hpl
end
end Sm
set_option Elab.async false
set_option linter.all false
set_option maxRecDepth 100000
set_option maxHeartbeats 1000000
namespace Sm
open PySem PySem.Spec PyProof.Rows L2
def lamQ (x : Str) (sc : Scope) : Str := (envOfC x sc 0 0 .none).qual ++ "<lambda>"
def FcL (K : PySem.W.Frag) (mg : Str → Option Value) (base : Heap) (T : List (Addr × Str)) (x : Str) (s : List Stmt × Arguments × Scope) : Prop :=
  ∃ f fd c Pt, FunD K x x s.2.1 s.1 s.2.2 [] [] f fd ∧ mg x = some (.ref f) ∧ fd.code = .ref c ∧ LamX.TabB base mg c Pt ∧ (Pt, lamQ x s.2.2) ∈ T ∧ ∀ p ∈ T, p.1 = Pt → p.2 = lamQ x s.2.2
section
variable {P : Program} {w : World} {K : PySem.W.Frag} {T : List (Addr × Str)} {mg : Str → Option Value} {base : Heap} {x : Str} {s : List Stmt × Arguments × Scope} {N ps : List Str} {gd : Bool} {k : Nat} {S : SpecF}
theorem g_ofL {qual : Str} {params : Arguments} {body : List Stmt} {scope : Scope} {dvs : List V} {kws : List (Str × V)} {f c : Addr} {fd : FuncData} (F : FunD K x qual params body scope dvs kws f fd) (hc : fd.code = .ref c) (Sc : FnScope N ps scope) (len : ∀ pvs st Q PX, S pvs st Q PX → pvs.length = ps.length)
    (hbody : ∀ (cdv : Value) (A : Around) (outer : List PySem.Env) (s : Shared) (H : Hp) (E : XK), cdv = .ref c → Room k (A.deeper (envOfC qual scope s.heap.objs.size f cdv)) → Gu gd (A.deeper (envOfC qual scope s.heap.objs.size f cdv)) →
      ∃ t : SemS, JSs (cxOf (L2.CX P w) P w K mg base N qual scope f cdv A outer s H E) T (fun cls d _ H' => E cls d H') body t ∧ ∀ pvs st Q PX, S pvs st Q PX → t (endOf Q PX) (ini N pvs) st) :
    FnG P w K T mg base gd (k + 1) f fd ps S := by
  obtain ⟨oc, od, dV, kV, doc, pm, an, cdv, ct, osl, rfl, lk, hcd, _, _⟩ := F.ex
  have hcv : cdv = .ref c := hc
  refine ⟨len, fun A outer s H args us vs Q E hr hgd e0 hb r hsp => ?_⟩
  obtain ⟨pvs, st, m, PQ, PX, rv, rel, hS, fin, finx⟩ := hsp
  have hl := len _ _ _ _ hS
  have hlv : vs.length = ps.length := rv.length.trans hl
  refine LamX.run_ofS (k := k) lk hcd Sc hr e0 hb r hlv fun hr2 => ?_
  obtain ⟨t, ht, hq⟩ := hbody cdv A outer s H E hcv hr2 hgd
  refine ⟨tS K T (fun cls d _ H' => E cls d H') t, ht, ?_⟩
  exact ⟨ini N pvs, st, m, _, rs_ini rv, rel, hq pvs st PQ PX hS, ⟨fun ρ st' p σ m' H' g r' _ => fin .non st' p .non m' H' g r' .non, fin, fun _ _ p => p.elim, fun _ _ p => p.elim, fun e ρ st' p cls d σ m' H' g r' _ ex => finx e st' p cls d m' H' g r' ex⟩⟩
theorem g_defL (F : FcL K mg base T x s) (Sc : FnScope N ps s.2.2) (bnd : ∀ (kV doc pm : Value) (an : Option Addr) (cdv ct : Value) (us : List Value), us.length = ps.length → bindArgs (PySem.W.fnOf x x s.2.1 s.1 s.2.2 .none kV doc pm an cdv ct) ⟨us, []⟩ = pure (ps.zip us))
    (len : ∀ pvs st Q PX, S pvs st Q PX → pvs.length = ps.length)
    (hbody : ∀ (f : Addr) (cdv : Value) (c Pt : Addr) (A : Around) (outer : List PySem.Env) (sh : Shared) (H : Hp) (E : XK), Room k (A.deeper (envOfC x s.2.2 sh.heap.objs.size f cdv)) → Gu gd (A.deeper (envOfC x s.2.2 sh.heap.objs.size f cdv)) →
      cdv = .ref c → LamX.TabB base mg c Pt → (Pt, lamQ x s.2.2) ∈ T → (∀ p ∈ T, p.1 = Pt → p.2 = lamQ x s.2.2) →
      ∃ t : SemS, JSs (cxOf (L2.CX P w) P w K mg base N x s.2.2 f cdv A outer sh H E) T (fun cls d _ H' => E cls d H') s.1 t ∧ ∀ pvs st Q PX, S pvs st Q PX → t (endOf Q PX) (ini N pvs) st) :
    Gd P w K T mg base gd (k + 1) x ps [] S := by
  obtain ⟨f, fd, c, Pt, F, hm, hc, TB, h1, h2⟩ := F
  exact ⟨f, fd, [], [], hm, F.kp, F.bindsN bnd, .nil, fun _ _ => .nil, g_ofL F hc Sc len fun cdv A outer sh H E he hr hg => hbody f cdv c Pt A outer sh H E hr hg he TB h1 h2⟩
end
theorem nm_own {X : Cx} {x : Str} {c : Addr} (h : X.mg x = some (.ref c)) (hg : Gl X x) (hd : (x == ("__debug__" : Str)) = false := by decide) : Names X x (.ref c) := ⟨hg, hd, .inl h⟩
/-- an own error whose one field is read behind 'as' -/
def XfI (K : PySem.W.Frag) (mg : Str → Option Value) (x n : Str) : Prop := XfC K (ad mg x) ∧ PySem.W.findIn K (.ref (ad mg x)) n = some none ∧ mg x = some (.ref (ad mg x))
end Sm
set_option Elab.async false
set_option linter.all false
set_option maxRecDepth 100000
set_option maxHeartbeats 1000000
namespace Sm
open PySem PySem.Spec PyProof.Rows L2 LamX
section
variable {P : Program} {w : World} {K : PySem.W.Frag} {T : List (Addr × Str)} {mg mb : Str → Option Value} {k : Nat} {fa a : Addr} {fd : FuncData} {x : Str} {S : SpecF} {s₁ : Shared} {vs : List Value} {ns : List Int}
/-- the start: the script's list, the empty tables -/
def Hst (K : PySem.W.Frag) (tb : List Addr) (a : Addr) (o : Obj) (xs : List V) : Hp := fun b =>
  if b ∈ tb then some (.tbl #[])
  else if b = a then (if (K.lookup a).isNone then some (.frz o (.lst xs)) else none)
  else none
structure AtEnd (K : PySem.W.Frag) (T : List (Addr × Str)) (h : Heap) (mg : Str → Option Value) (cs : List (Addr × Addr)) : Prop where
  tab : ∀ p ∈ cs, h.get? p.2 = some { cls := .none, data := .fields #[] }
  out : ∀ p ∈ cs, K.lookup p.2 = none
  hd : ∀ p ∈ cs, PySem.W.CodeHd h p.1 p.2
  bm : ∃ (m : Addr) (ob : Obj), mg "__builtins__" = some (.ref m) ∧ m ≠ builtinsNs ∧
    h.get? m = some ob ∧ ob.cls = .type "module" ∧ ob.dict = some builtinsNs ∧ ob.data = .plain
  sub : ∀ q ∈ T, q.1 ∈ cs.map (·.2)
end
end Sm
set_option Elab.async false
set_option linter.all false
set_option maxRecDepth 100000
set_option maxHeartbeats 1000000
namespace Sm
open PySem PySem.Spec PyProof.Rows L2
abbrev SemO := Env → Store → (Option Int → Store → Prop) → XP → Prop
def FinO (K : PySem.W.Frag) (T : List (Addr × Str)) (m : List Addr) (H : Hp) (P : Option Int → Store → Prop) (Q : Option Int → Hp → Prop) : Prop := ∀ b st', P b st' → ∀ m' H', Grow m H m' H' → Rel K T m' st' H' → Q b H'
def tOs (K : PySem.W.Frag) (T : List (Addr × Str)) (W : WX) (f : SemO) : TO := fun σ H Q => ∃ ρ st m P PX, RS K m H σ ρ ∧ Rel K T m st H ∧ f ρ st P PX ∧ FinO K T m H P Q ∧ FinX K T m H PX (fun c d H' => W c d σ H')
abbrev JO (X : Cx) (T : List (Addr × Str)) (W : WX) (e : Option Expr) (f : SemO) : Prop := PO X e (tOs X.K T W f)
theorem PO.imp {X : Cx} {e : Option Expr} {t t' : TO} (h : PO X e t) (i : ∀ σ H Q, t' σ H Q → t σ H Q) : PO X e t' := ⟨fun pins s σ H Q I q => h.run pins s σ H Q I (i σ H Q q)⟩
def sPN : SemO := fun _ st P _ => P none st
def sPt (f : Sem) : SemO := fun ρ st P PX => f ρ st (fun v st1 => match v with
  | .int i => P (some i) st1
  | _ => False) PX
def cutP (xs : List PV) (lo hi : Option Int) : List PV := (xs.drop (HT.sIx xs.length 0 lo)).take (HT.sIx xs.length xs.length hi - HT.sIx xs.length 0 lo)
def oSl (x : PV) (l u : Option Int) (st : Store) (P : PK) : Prop := match x with
  | .str z => z.length ≤ 100000 ∧ P (.str (Txt.slice z l u)) st
  | .tup xs => ¬ (HT.sIx xs.length 0 l = 0 ∧ HT.sIx xs.length xs.length u = xs.length) ∧ P (.tup (cutP xs l u)) st
  | .lst xs => P (.lst (cutP xs l u)) st
  | .hd n => match st[n]? with
    | some (.lst xs) => P (.lst (cutP xs l u)) st
    | _ => False
  | _ => False
def sSl (f : Sem) (lo hi : SemO) : Sem := fun ρ st P PX => f ρ st (fun x st1 => lo ρ st1 (fun l st2 => hi ρ st2 (fun u st3 => oSl x l u st3 P) PX) PX) PX
section
variable {X : Cx} {T : List (Addr × Str)} {W : WX} {pos p2 : Pos} {e : Expr} {lo hi : Option Expr} {f : Sem} {fl fu : SemO}
theorem o_none : JO X T W none sPN := PO.imp po_none fun σ H Q h => by
  obtain ⟨ρ, st, m, P, PX, rs, rel, hf, fin, finx⟩ := h
  exact fin _ st hf m H Grow.refl rel
theorem o_some (h : JE X T W e f) : JO X T W (some e) (sPt f) := PO.imp (po_some h) fun σ H Q h => by
  obtain ⟨ρ, st, m, P, PX, rs, rel, hf, fin, finx⟩ := h
  refine ⟨ρ, st, m, _, PX, rs, rel, hf, fun v st1 hv x m1 H1 g1 rel1 rv1 => ?_, finx⟩
  cases rv1 <;> first | exact hv.elim | skip
  exact ⟨_, rfl, fin _ st1 hv m1 H1 g1 rel1⟩
theorem RVs.take {K : PySem.W.Frag} {m : List Addr} {H : Hp} : ∀ {xs : List V} {vs : List PV} (i : Nat), RVs K m H xs vs → RVs K m H (xs.take i) (vs.take i)
  | _, _, 0, _ => .nil
  | _, _, _ + 1, .nil => .nil
  | _, _, i + 1, .cons a r => .cons a (RVs.take i r)
theorem RVs.cut {K : PySem.W.Frag} {m : List Addr} {H : Hp} {xs : List V} {vs : List PV} (r : RVs K m H xs vs) (l u : Option Int) : RVs K m H (cutV xs l u) (cutP vs l u) := by
  unfold cutV cutP
  rw [r.length]
  exact (r.drop _).take _
theorem w_sl (he : JE X T W e f) (hl : JO X T W lo fl) (hu : JO X T W hi fu) : JE X T W (.Subscript e (.Slice lo hi none p2) pos) (sSl f fl fu) :=
  PE.imp (pe_slice (SlR.or C8.sl_txt (SlR.or sl_tup sl_list)) he hl hu) fun σ H Q h => by
    obtain ⟨ρ, st, m, P, PX, rs, rel, hf, fin, finx⟩ := h
    refine ⟨ρ, st, m, _, PX, rs, rel, hf, fun x st1 h1 xv m1 H1 g1 rel1 rv1 => ?_, finx⟩
    refine ⟨ρ, st1, m1, _, PX, rs.grow rel g1, rel1, h1, fun l st2 h2 m2 H2 g2 rel2 => ?_, finx.step g1⟩
    refine ⟨ρ, st2, m2, _, PX, (rs.grow rel g1).grow rel1 g2, rel2, h2, fun u st3 h3 m3 H3 g3 rel3 => ?_, (finx.step g1).step g2⟩
    have rv3 := (rv1.grow rel1 g2).grow rel2 g3
    have f3 := ((fin.step g1).step g2).step g3
    unfold oSl at h3
    split at h3
    · cases rv3
      exact .inl ⟨_, rfl, sz_str h3.1, f3 _ st3 h3.2 _ m3 H3 Grow.refl rel3 (.str _)⟩
    · cases rv3 with
      | tup hq hs =>
        refine .inr (.inl ⟨_, _, rfl, hq, ?_, fun p hp => ?_⟩)
        · rw [hs.length]
          exact h3.1
        · exact f3 _ st3 h3.2 _ m3 _ (Grow.new hp) (rel3.new hp) (.tup (SqT.of upd_same) ((hs.cut _ _).grow rel3 (Grow.new hp)))
    · cases rv3 with
      | lst hq hs => exact .inr (.inr ⟨_, _, rfl, hq.sq, fun p hp => f3 _ st3 h3 _ m3 _ (Grow.new hp) (rel3.new hp) (.lst (.inl ⟨.inl upd_same, rel3.mem_ne hp⟩) ((hs.cut _ _).grow rel3 (Grow.new hp)))⟩)
    · split at h3
      · rename_i hst
        cases rv3 with
        | hd hn _ =>
          obtain ⟨xs, hq, hs⟩ := rel3.ob _ _ _ hn hst
          exact .inr (.inr ⟨_, _, rfl, SqL.of hq, fun p hp => f3 _ st3 h3 _ m3 _ (Grow.new hp) (rel3.new hp) (.lst (.inl ⟨.inl upd_same, rel3.mem_ne hp⟩) ((hs.cut _ _).grow rel3 (Grow.new hp)))⟩)
      · exact h3.elim
    · exact h3.elim
end
def sFmt (f : Sem) : Sem := fun ρ st P PX => f ρ st (fun x st1 => match x with
  | .str y => y.length ≤ 100000 ∧ P (.str y) st1
  | .int i => i.natAbs.log2 < 1920 ∧ P (.str (toString i)) st1
  | _ => False) PX
def sJs : List Sem → Str → Env → Store → (Str → Store → Prop) → XP → Prop
  | [], acc, _, st, P, _ => P acc st
  | f :: fs, acc, ρ, st, P, PX => f ρ st (fun x st1 => match x with
    | .str y => (acc ++ y).length ≤ 100000 ∧ sJs fs (acc ++ y) ρ st1 P PX
    | _ => False) PX
def sFs (fs : List Sem) : Sem := fun ρ st P PX => sJs fs Str.empty ρ st (fun out st1 => P (.str out) st1) PX
inductive JJ (X : Cx) (T : List (Addr × Str)) (W : WX) : List Expr → List Sem → Prop
  | nil : JJ X T W [] []
  | cons {e : Expr} {f : Sem} {es : List Expr} {fs : List Sem} (h : JE X T W e f) (r : JJ X T W es fs) : JJ X T W (e :: es) (f :: fs)
section
variable {X : Cx} {T : List (Addr × Str)} {W : WX} {pos : Pos} {e v1 v2 : Expr} {rest : List Expr} {f : Sem} {fs : List Sem}
theorem w_fmt (h : JE X T W e f) : JE X T W (.FormattedValue e (-1) none pos) (sFmt f) := PE.imp (pe_fmt h) fun σ H Q h => by
  obtain ⟨ρ, st, m, P, PX, rs, rel, hf, fin, finx⟩ := h
  refine ⟨ρ, st, m, _, PX, rs, rel, hf, fun x st1 h1 xv m1 H1 g1 rel1 rv1 => ?_, finx⟩
  cases rv1 <;> first | exact h1.elim | skip
  · exact .inr ⟨_, rfl, h1.1, fin _ st1 h1.2 _ m1 H1 g1 rel1 (.str _)⟩
  · exact .inl ⟨_, rfl, sz_str h1.1, fin _ st1 h1.2 _ m1 H1 g1 rel1 (.str _)⟩
theorem JJ.pj {es : List Expr} (h : JJ X T W es fs) : PJ X es (fs.map (tE X.K T W)) := by
  induction h with
  | nil => exact .nil
  | cons h r ih => exact .cons h ih
theorem js_of {K : PySem.W.Frag} {σ : L2.St} {ρ : Env} {P : Str → Store → Prop} {PX : XP} {Q : Str → Hp → Prop} : ∀ (fs : List Sem) (acc : Str) (m : List Addr) (H : Hp) (st : Store), RS K m H σ ρ → Rel K T m st H → sJs fs acc ρ st P PX →
    (∀ b st', P b st' → ∀ m' H', Grow m H m' H' → Rel K T m' st' H' → Q b H') → FinX K T m H PX (fun c d H' => W c d σ H') → tJs (fs.map (tE K T W)) acc σ H Q
  | [], acc, m, H, st, rs, rel, hf, fin, finx => fin _ st hf m H Grow.refl rel
  | f :: fs, acc, m, H, st, rs, rel, hf, fin, finx => by
    refine ⟨ρ, st, m, _, PX, rs, rel, hf, fun x st1 h1 xv m1 H1 g1 rel1 rv1 => ?_, finx⟩
    cases rv1 <;> first | exact h1.elim | skip
    exact ⟨_, rfl, sz_str h1.1, js_of fs _ m1 H1 st1 (rs.grow rel g1) rel1 h1.2 (fun b st' hb m' H' g => fin b st' hb m' H' (g1.trans g)) (finx.step g1)⟩
theorem w_fs (h : JJ X T W (v1 :: v2 :: rest) fs) : JE X T W (.JoinedStr (v1 :: v2 :: rest) pos) (sFs fs) := PE.imp (pe_joined h.pj) fun σ H Q h => by
  obtain ⟨ρ, st, m, P, PX, rs, rel, hf, fin, finx⟩ := h
  exact js_of fs _ m H st rs rel hf (fun b st' hb m' H' g rel' => fin _ st' hb _ m' H' g rel' (.str _)) finx
end
def strsP : List PV → Option (List Str)
  | [] => some []
  | .str a :: r => (strsP r).map (a :: ·)
  | _ => none
theorem strs_rvs {K : PySem.W.Frag} {m : List Addr} {H : Hp} : ∀ l : List Str, RVs K m H (l.map V.str) (l.map PV.str)
  | [] => .nil
  | x :: r => .cons (.str x) (strs_rvs r)
theorem strs_of {K : PySem.W.Frag} {m : List Addr} {H : Hp} : ∀ {xs : List V} {vs : List PV} {ys : List Str}, RVs K m H xs vs → strsP vs = some ys → xs = ys.map V.str
  | _, _, _, .nil, e => by cases e; rfl
  | _, _, _, .cons (d := v) (ds := ds) r rs, e => by
    cases r with
    | str a =>
      simp only [strsP] at e
      cases q : strsP ds with
      | none => rw [q] at e; cases e
      | some zs => rw [q] at e; cases e; rw [strs_of rs q]; rfl
    | _ => cases e
def itemsSeq (st : Store) : PV → Option (List PV)
  | .tup l => some l
  | .lst l => some l
  | .hd n => match st[n]? with
    | some (.lst l) => some l
    | _ => none
  | _ => none
def rListS : List V → Hp → VK → Prop := fun xs H Q => ∃ z : Str, xs = [.str z] ∧ z.length ≤ sizeLine ∧ ∀ p, H p = none → Q (.ref p) (upd H p (.lst (z.cps.toList.map fun c => V.str ⟨#[c]⟩)))
theorem call_list_text {X : Cx} (hc : X.calm = true) : CallR X (.type "list") rListS := by
  intro pins s σ H xs us Q I r h
  obtain ⟨z, rfl, hz, q⟩ := h
  obtain ⟨u, rfl, rx⟩ := vals1 r
  obtain ⟨t, rfl⟩ := rx
  refine call_list_str (I.ok.hd hc) z t (fun h' tk acc c' kp e it => ?_) (by exact hz)
  have hl : acc.toList.length = (z.cps.toList.map fun c => V.str ⟨#[c]⟩).length := by
    rw [List.length_map, Array.length_toList, Array.length_toList, it.1]
  have r' : Vals (z.cps.toList.map fun c => V.str ⟨#[c]⟩) acc.toList := vals_of_idx _ _ hl fun j v hv => by
    obtain ⟨c, u, hcx, rfl⟩ := it.2 j v (by simpa using hv)
    refine ⟨.str ⟨#[c]⟩, ?_, ⟨u, rfl⟩⟩
    rw [List.getElem?_map]
    have : z.cps.toList[j]? = some c := by simpa using hcx
    rw [this]; rfl
  exact ⟨.ref s.heap.objs.size, _, I.laid (t' := tk) kp (Nat.le_refl _) (show ObjOk X.prog X.w _ h' _ (.lst _) from ⟨by rw [List.length_map, Array.length_toList]; exact hz, acc.toList, c', r', by rw [Array.toArray_toList]; exact e⟩), rfl, q _ (I.hok.fresh (Nat.le_refl _))⟩
end Sm
set_option Elab.async false
set_option linter.all false
set_option maxRecDepth 100000
set_option maxHeartbeats 1000000
namespace Sm
open PySem PySem.Spec PyProof.Rows L2
def oEq2 : SOp := fun x y st P => match x, y with
  | .str a, .str b => P (.bl (decide (a = b))) st
  | x, y => oEq x y st P
def oNe2 : SOp := fun x y st P => match x, y with
  | .str a, .str b => P (.bl (!decide (a = b))) st
  | x, y => oNe x y st P
theorem dec_s (a b : Str) : decide (V.str a = V.str b) = decide (a = b) := decide_eq_decide.mpr ⟨fun h => by cases h; rfl, fun h => by rw [h]⟩
section
variable {K : PySem.W.Frag} {T : List (Addr × Str)}
theorem os_eq2 : OpS K T (fun x y H Q => rEq x y H Q ∨ rEqD K x y H Q) oEq2 := fun x y v w m H st P Q rel rx ry h fin => by
  unfold oEq2 at h
  split at h
  · cases rx
    cases ry
    refine .inl ⟨rfl, ?_⟩
    rw [dec_s]
    exact fin _ st h _ m H Grow.refl rel (.bl _)
  · exact .inr (os_eq x y v w m H st P Q rel rx ry h fin)
theorem os_ne2 : OpS K T (fun x y H Q => rNe x y H Q ∨ rNeD K x y H Q) oNe2 := fun x y v w m H st P Q rel rx ry h fin => by
  unfold oNe2 at h
  split at h
  · cases rx
    cases ry
    refine .inl ⟨rfl, ?_⟩
    rw [dec_s]
    exact fin _ st h _ m H Grow.refl rel (.bl _)
  · exact .inr (os_ne x y v w m H st P Q rel rx ry h fin)
/-- a text in a list or tuple of texts -/
def oInT (neg : Bool) : SOp := fun x y st P => match x, itemsSeq st y with
  | .str a, some l => match strsP l with
    | some ys => P (.bl (if neg then !decide (a ∈ ys) else decide (a ∈ ys))) st
    | _ => False
  | _, _ => False
theorem seq_of {m : List Addr} {H : Hp} {st : Store} {y : V} {w : PV} {l : List PV} (rel : Rel K T m st H) (ry : RV K m H y w) (h : itemsSeq st w = some l) : ∃ p xs, y = .ref p ∧ (SqL K H p xs ∨ SqT K H p xs) ∧ RVs K m H xs l := by
  cases ry with
  | tup hq hs => cases h; exact ⟨_, _, rfl, .inr hq, hs⟩
  | lst hq hs => cases h; exact ⟨_, _, rfl, .inl hq.sq, hs⟩
  | hd hn _ =>
    simp only [itemsSeq] at h
    split at h
    · rename_i hst
      cases h
      obtain ⟨xs, hq, hs⟩ := rel.ob _ _ _ hn hst
      exact ⟨_, _, rfl, .inl (SqL.of hq), hs⟩
    · cases h
  | _ => cases h
theorem inV_strs (a : Str) : ∀ ys : List Str, inV (.str a) (ys.map V.str) = decide (a ∈ ys)
  | [] => rfl
  | y :: ys => by
    have h := inV_strs a ys
    unfold inV at h ⊢
    rw [List.map_cons, List.any_cons, h]
    show (eqV (.str y) (.str a) || decide (a ∈ ys)) = _
    have e : eqV (.str y) (.str a) = decide (a = y) := by
      show (y == a) = _
      rw [Bool.eq_iff_iff]
      simp only [beq_iff_eq, decide_eq_true_eq]
      exact ⟨fun h => h.symm, fun h => h.symm⟩
    rw [e, ← Bool.decide_or]
    exact decide_eq_decide.mpr (by simp)
theorem flat_strs : ∀ ys : List Str, (ys.map V.str).all flatV = true
  | [] => rfl
  | y :: ys => by simp [flatV]
theorem os_inT {neg : Bool} : OpS K T (rIn K neg) (oInT neg) := fun x y v w m H st P Q rel rx ry h fin => by
  unfold oInT at h
  split at h
  · rename_i a l hl
    split at h
    · rename_i ys hys
      cases rx
      obtain ⟨p, xs, rfl, hq, hs⟩ := seq_of rel ry hl
      cases strs_of hs hys
      refine ⟨p, _, rfl, hq, rfl, flat_strs ys, ?_⟩
      rw [inV_strs]
      exact fin _ st h _ m H Grow.refl rel (.bl _)
    · exact h.elim
  · exact h.elim
end
section
variable {X : Cx} {T : List (Addr × Str)} {W : WX} {pos : Pos} {a b : Expr} {f g : Sem}
theorem w_eq2 (hu : X.A.units + 64 < cLine) (ha : JE X T W a f) (hb : JE X T W b g) : JE X T W (.Compare a [.Eq] [b] pos) (sOp oEq2 f g) := w_cmp (OpR.or op_eq (op_eqD hu)) os_eq2 ha hb (nomark _)
end
end Sm
set_option Elab.async false
set_option linter.all false
set_option maxRecDepth 100000
set_option maxHeartbeats 1000000
namespace Sm
open PySem PySem.Spec PyProof.Rows L2
def oRepN : SOp := fun x y st P => match x, y with
  | .hd n, .int k => match st[n]? with
    | some (.lst l) => 0 ≤ k ∧ k ≤ 1000 ∧ l.length * k.toNat ≤ 1000 ∧ P (.hd st.length) (st ++ [.lst (List.replicate k.toNat l).flatten])
    | _ => False
  | _, _ => False
theorem os_repN {K : PySem.W.Frag} {T : List (Addr × Str)} : OpS K T rRep oRepN := fun x y v w m H st P Q rel rx ry h fin => by
  unfold oRepN at h
  split at h
  · split at h
    · rename_i l hl
      cases rx with
      | @hd a n hn _ =>
        cases ry
        obtain ⟨xs, hq, hs⟩ := rel.ob _ _ _ hn hl
        obtain ⟨h1, h2, h3, h4⟩ := h
        refine ⟨a, _, xs, rfl, rfl, hq, by omega, by omega, by rw [hs.length]; exact sz1000 h3, fun p hp => ?_⟩
        exact fin _ _ h4 _ (m ++ [p]) _ (Grow.hand rel hp) (rel.hand hp (hs.rep _)) (.hd (get_hand rel) ⟨_, upd_same, rfl⟩)
    · exact h.elim
  · exact h.elim
def oAdd2 : SOp := fun x y st P => match x, y with
  | .int i, .int j => P (.int (i + j)) st
  | .str i, .str j => i.length + j.length ≤ 100000 ∧ P (.str (i ++ j)) st
  | .tup i, .tup j => i.length + j.length ≤ 100000 ∧ P (.tup (i ++ j)) st
  | .hd i, .hd j => match st[i]?, st[j]? with
    | some (.lst l), some (.lst k) => l.length + k.length ≤ 100000 ∧ P (.hd st.length) (st ++ [.lst (l ++ k)])
    | _, _ => False
  | _, _ => False
theorem os_add2 {K : PySem.W.Frag} {T : List (Addr × Str)} : OpS K T (fun x y H Q => (((rI0 fun i j => .int (i + j)) x y H Q ∨ (∃ i j, x = .str i ∧ y = .str j ∧ i.length + j.length ≤ sizeLine ∧ Q (.str (i ++ j)) H)) ∨ rCat x y H Q) ∨ rCatA K x y H Q) oAdd2 := fun x y v w m H st P Q rel rx ry h fin => by
  unfold oAdd2 at h
  split at h
  · cases rx
    cases ry
    exact .inl (.inl (.inl ⟨_, _, rfl, rfl, fin _ st h _ m H Grow.refl rel (.int _)⟩))
  · cases rx
    cases ry
    exact .inl (.inl (.inr ⟨_, _, rfl, rfl, sz_str h.1, fin _ st h.2 _ m H Grow.refl rel (.str _)⟩))
  · cases rx with
    | tup hq hs =>
      cases ry with
      | tup hq2 hs2 =>
        have hl := RVs.length hs
        have hl2 := RVs.length hs2
        refine .inr ⟨_, _, _, _, rfl, rfl, hq, hq2, by rw [hl, hl2]; exact sz_str h.1, fun e => ?_, fun e e2 => ?_, fun e e2 p hp => ?_⟩
        · subst e
          cases hs
          exact fin _ st h.2 _ m H Grow.refl rel (.tup hq2 hs2)
        · subst e2
          cases hs2
          rw [List.append_nil] at h
          exact fin _ st h.2 _ m H Grow.refl rel (.tup hq hs)
        · exact fin _ st h.2 _ m _ (Grow.new hp) (rel.new hp) (.tup (SqT.of upd_same) ((hs.append hs2).grow rel (Grow.new hp)))
  · split at h
    · rename_i hl hk
      cases rx with
      | hd hn _ =>
        cases ry with
        | hd hn2 _ =>
          obtain ⟨xs, hq, hs⟩ := rel.ob _ _ _ hn hl
          obtain ⟨ys, hq2, hs2⟩ := rel.ob _ _ _ hn2 hk
          refine .inl (.inr ⟨_, _, xs, ys, rfl, rfl, hq, hq2, by rw [hs.length, hs2.length]; exact sz_str h.1, fun p hp => ?_⟩)
          exact fin _ _ h.2 _ (m ++ [p]) _ (Grow.hand rel hp) (rel.hand hp (hs.append hs2)) (.hd (get_hand rel) ⟨_, upd_same, rfl⟩)
    · exact h.elim
  · exact h.elim
section
variable {X : Cx} {T : List (Addr × Str)} {W : WX} {pos p apos cpos : Pos} {a b e o : Expr} {es : List Expr} {f fo f' : Sem} {g : SemA}
theorem w_repN (ha : JE X T W a f) (hb : JE X T W b f') : JE X T W (.BinOp a .Mult b pos) (sOp oRepN f f') := w_op op_rep os_repN ha hb
theorem w_add2 (ha : JE X T W a f) (hb : JE X T W b f') : JE X T W (.BinOp a .Add b pos) (sOp oAdd2 f f') := w_op (OpR.or (OpR.or (OpR.or op_add op_add_str) op_cat) op_catA) os_add2 ha hb
end
end Sm
set_option Elab.async false
set_option linter.all false
set_option maxRecDepth 100000
set_option maxHeartbeats 1000000
namespace Sm
open PySem PySem.Spec PyProof.Rows L2
abbrev DL := List (Key × PV)
def keyP : PV → Option Key
  | .int i => some (.inl i)
  | .str x => some (.inr x)
  | _ => none
theorem keyP_eq {K : PySem.W.Frag} {m : List Addr} {H : Hp} {x : V} {v : PV} {k : Key} (r : RV K m H x v) (e : keyP v = some k) : x = kV k := by
  cases r <;> first | (cases e; done) | skip
  · cases e; rfl
  · cases e; rfl
def getP (l : DL) (k : Key) : Option PV := (l.find? fun kv => decide (kv.1 = k)).map (·.2)
def putP (l : DL) (k : Key) (v : PV) : DL := if (l.any fun kv => decide (kv.1 = k)) = true then l.map (fun kv => if kv.1 = k then (kv.1, v) else kv) else l ++ [(k, v)]
/-- kvs says what l says -/
def KR (K : PySem.W.Frag) (m : List Addr) (H : Hp) (kvs : List (Key × V)) (l : DL) : Prop := kvs.map (·.1) = l.map (·.1) ∧ RVs K m H (kvs.map (·.2)) (l.map (·.2))
section
variable {K : PySem.W.Frag} {T : List (Addr × Str)} {m m' : List Addr} {H H' : Hp} {st : Store}
theorem KR.nil : KR K m H [] [] := ⟨rfl, .nil⟩
theorem KR.inv : ∀ {kvs : List (Key × V)} {p : Key × PV} {l : DL}, KR K m H kvs (p :: l) → ∃ x r, kvs = (p.1, x) :: r ∧ RV K m H x p.2 ∧ KR K m H r l
  | [], p, l, ⟨h, _⟩ => by cases h
  | (k, x) :: r, p, l, ⟨h, hr⟩ => by
    simp only [List.map_cons, List.cons.injEq] at h
    obtain ⟨rfl, h2⟩ := h
    cases hr with
    | cons h3 h4 => exact ⟨x, r, rfl, h3, h2, h4⟩
theorem KR.nilr {kvs : List (Key × V)} (h : KR K m H kvs []) : kvs = [] := by
  have := h.1
  simpa using this
theorem KR.cons {x : V} {v : PV} {k : Key} {kvs : List (Key × V)} {l : DL} (r : RV K m H x v) (h : KR K m H kvs l) : KR K m H ((k, x) :: kvs) ((k, v) :: l) := ⟨by simp [h.1], .cons r h.2⟩
theorem KR.append : ∀ {l l' : DL} {kvs kvs' : List (Key × V)}, KR K m H kvs l → KR K m H kvs' l' → KR K m H (kvs ++ kvs') (l ++ l')
  | [], l', kvs, kvs', h, h' => by rw [h.nilr]; exact h'
  | p :: l, l', kvs, kvs', h, h' => by
    obtain ⟨x, r, rfl, h1, h2⟩ := h.inv
    exact .cons h1 (h2.append h')
theorem KR.length {kvs : List (Key × V)} {l : DL} (h : KR K m H kvs l) : kvs.length = l.length := by
  have := congrArg List.length h.1
  simpa using this
theorem KR.grow {kvs : List (Key × V)} {l : DL} (r : Rel K T m st H) (g : Grow m H m' H') (h : KR K m H kvs l) : KR K m' H' kvs l := ⟨h.1, h.2.grow r g⟩
theorem KR.find : ∀ {l : DL} {kvs : List (Key × V)} (k : Key), KR K m H kvs l → (getP l k = none ∧ valV kvs k = none) ∨ ∃ v x, getP l k = some v ∧ valV kvs k = some x ∧ RV K m H x v
  | [], kvs, k, h => by rw [h.nilr]; exact .inl ⟨rfl, rfl⟩
  | p :: l, kvs, k, h => by
    obtain ⟨x, r, rfl, h1, h2⟩ := h.inv
    by_cases hk : p.1 = k
    · exact .inr ⟨p.2, x, by simp [getP, List.find?_cons, hk], valV_pos hk, h1⟩
    · have e1 : getP (p :: l) k = getP l k := by simp [getP, List.find?_cons, hk]
      rw [e1, valV_neg hk]
      exact h2.find k
theorem KR.any : ∀ {l : DL} {kvs : List (Key × V)} (k : Key), KR K m H kvs l → (kvs.any fun kv => decide (kv.1 = k)) = (l.any fun kv => decide (kv.1 = k))
  | [], kvs, k, h => by rw [h.nilr]; rfl
  | p :: l, kvs, k, h => by
    obtain ⟨x, r, rfl, h1, h2⟩ := h.inv
    simp only [List.any_cons, h2.any k]
theorem KR.setAll {x : V} {v : PV} (rx : RV K m H x v) : ∀ {l : DL} {kvs : List (Key × V)} (k : Key), KR K m H kvs l → KR K m H (kvs.map fun kv => if kv.1 = k then (kv.1, x) else kv) (l.map fun kv => if kv.1 = k then (kv.1, v) else kv)
  | [], kvs, k, h => by rw [h.nilr]; exact .nil
  | p :: l, kvs, k, h => by
    obtain ⟨y, r, rfl, h1, h2⟩ := h.inv
    have ih := h2.setAll rx k
    by_cases hk : p.1 = k
    · simp only [List.map_cons, hk, if_true]
      exact .cons rx ih
    · simp only [List.map_cons, hk, if_false]
      exact .cons h1 ih
theorem KR.put {x : V} {v : PV} {l : DL} {kvs : List (Key × V)} (k : Key) (rx : RV K m H x v) (h : KR K m H kvs l) : KR K m H (putK kvs k x) (putP l k v) := by
  unfold putK putP
  rw [h.any k]
  split
  · exact h.setAll rx k
  · exact h.append (.cons rx .nil)
end
def sSetD (f fo fi : Sem) : SemS := fun D ρ st => f ρ st (fun v st1 => fo ρ st1 (fun o st2 => fi ρ st2 (fun i st3 => match o, keyP i with
  | .dh n, some k => match st3[n]? with
    | some (.dct l) => l.length < 1000 ∧ D.nx ρ (st3.set n (.dct (putP l k v)))
    | _ => False
  | _, _ => False) (fun e st3 => D.ex e ρ st3)) (fun e st2 => D.ex e ρ st2)) (fun e st1 => D.ex e ρ st1)
theorem Rel.atD {K : PySem.W.Frag} {T : List (Addr × Str)} {m : List Addr} {H : Hp} {st : Store} {n : Nat} {a : Addr} {l : DL} (r : Rel K T m st H) (h : m[n]? = some a) (hl : st[n]? = some (.dct l)) : ∃ kvs, H a = some (.dK kvs) ∧ KR K m H kvs l := by
  obtain ⟨kvs, e, q⟩ := r.ob n a _ h hl
  exact ⟨kvs, e, q⟩
def rDGet : R2 := fun x y H Q => ∃ a v, x = .ref a ∧ DGet H a y (some v) ∧ Q v H
def rDIn (neg : Bool) : R2 := fun y x H Q => ∃ a o, x = .ref a ∧ DGet H a y o ∧ Q (.bl (if neg then !o.isSome else o.isSome)) H
theorem op_din {X : Cx} (hu : X.A.units + 1 < cLine) : OpR X (compareOp .In) (rDIn false) := by
  intro pins s σ H y x v u Q I ry rx h
  obtain ⟨a, o, rfl, g, q⟩ := h
  obtain rfl : u = Value.ref a := rx
  exact d_in hu I g ry fun s3 I3 => ⟨.bl o.isSome, H, I3, rfl, q⟩
theorem op_dni {X : Cx} (hu : X.A.units + 1 < cLine) : OpR X (compareOp .NotIn) (rDIn true) := by
  intro pins s σ H y x v u Q I ry rx h
  obtain ⟨a, o, rfl, g, q⟩ := h
  obtain rfl : u = Value.ref a := rx
  exact d_notIn hu I g ry fun s3 I3 => ⟨.bl (!o.isSome), H, I3, rfl, q⟩
section
variable {X : Cx} {T : List (Addr × Str)} {W : WX} {pos p p2 apos cpos : Pos} {a b e o i : Expr} {es : List Expr} {f fo fi f' : Sem} {g : SemA}
theorem s_setD (hu : X.A.units + 1 < cLine) (he : JE X T W e f) (ho : JE X T W o fo) (hi : JE X T W i fi)
    (ha : ∀ v, assign (.Subscript o i p2) X.env v = (do
      let ov ← holding [v] (eval o X.env)
      let iv ← holding [v, ov] (eval i X.env)
      standAt p2
      holding [v, ov, iv] (setItem ov iv v)
      release [v, ov, iv] []) := by intro _; rfl) (hs : swapsWithSole [.Subscript o i p2] e pos.line X.env = pure false := by rfl) (hw : swappedStores [.Subscript o i p2] e X.env = pure none := by rfl)
    (h1 : (assignEach [.Subscript o i p2] X.env).map (·.2) = [assign (.Subscript o i p2) X.env] := by rfl) : JS X T W (.Assign [.Subscript o i p2] e pos) (sSetD f fo fi) := PS.imp (ps_asg he (pg_sub ho hi (set_dict hu) ha) hs hw h1) fun D σ H h => by
  obtain ⟨ρ, st, m, D', rs, rel, hf, fin⟩ := h
  refine ⟨ρ, st, m, _, _, rs, rel, hf, fun v st1 hv x m1 H1 g1 rel1 rv1 => ?_, fin.finx rel rs⟩
  refine ⟨ρ, st1, m1, _, _, rs.grow rel g1, rel1, hv, fun vo st2 hvo xo m2 H2 g2 rel2 rvo => ?_, (fin.finx rel rs).step g1⟩
  refine ⟨ρ, st2, m2, _, _, (rs.grow rel g1).grow rel1 g2, rel2, hvo, fun vi st3 hvi xi m3 H3 g3 rel3 rvi => ?_, ((fin.finx rel rs).step g1).step g2⟩
  dsimp only at hvi
  split at hvi
  · rename_i k hk
    split at hvi
    · rename_i l hl
      cases rvo.grow rel2 g3 with
      | @dh a n hn _ =>
        obtain ⟨kvs, hq, hr⟩ := rel3.atD hn hl
        have rx := (rv1.grow rel1 g2).grow rel2 g3
        have g4 : Grow m3 H3 m3 (L2.upd H3 a (.dK (putK kvs k x))) := Grow.upd hn hq
        have hp := (hr.put k rx).grow rel3 g4
        have rel4 := rel3.updO hn hq (o := .dK (putK kvs k x)) (l := .dct (putP l k v)) rfl (by intro _ z; cases z) ⟨_, upd_same, hp.1, hp.2⟩
        refine ⟨a, _, rfl, ?_, fin.nx _ _ hvi.2 σ m3 _ (((g1.trans g2).trans g3).trans g4) rel4 ((((rs.grow rel g1).grow rel1 g2).grow rel2 g3).grow rel3 g4)⟩
        rw [keyP_eq rvi hk]
        exact DPut.k hq (by rw [hr.length]; exact Nat.lt_of_lt_of_le hvi.1 (by decide))
    · exact hvi.elim
  · exact hvi.elim
end
end Sm
set_option Elab.async false
set_option linter.all false
set_option maxRecDepth 100000
set_option maxHeartbeats 1000000
namespace Sm
open PySem PySem.Spec PyProof.Rows L2
theorem KR.mem {K : PySem.W.Frag} {m : List Addr} {H : Hp} : ∀ {l : DL} {kvs : List (Key × V)} {q : Key × V}, KR K m H kvs l → q ∈ kvs → ∃ p ∈ l, p.1 = q.1 ∧ RV K m H q.2 p.2
  | [], kvs, q, h, hq => by rw [h.nilr] at hq; cases hq
  | p :: l, kvs, q, h, hq => by
    obtain ⟨x, r, rfl, h1, h2⟩ := h.inv
    rcases List.mem_cons.mp hq with e | hq
    · subst e
      exact ⟨p, List.mem_cons_self, rfl, h1⟩
    · obtain ⟨p', h3, h4⟩ := h2.mem hq
      exact ⟨p', List.mem_cons_of_mem _ h3, h4⟩
end Sm
set_option Elab.async false
set_option linter.all false
set_option maxRecDepth 100000
set_option maxHeartbeats 1000000
namespace Sm
open PySem PySem.Spec PyProof.Rows L2
abbrev SemI := Env → Store → ((Store → Prop) → List PV → Store → Prop) → XP → Prop
def Wk (K : PySem.W.Frag) (T : List (Addr × Str)) (J : It) (C : Store → Prop) (l : List PV) (m : List Addr) (H : Hp) : Prop := ∀ m2 H2 st2, Grow m H m2 H2 → Rel K T m2 st2 H2 → C st2 →
  (∀ (k : Nat) (v : PV), l[k]? = some v → J.go k H2 ∧ ∀ x H', J.yld k H2 x H' → Grow m2 H2 m2 H' ∧ Rel K T m2 st2 H' ∧ RV K m2 H' x v) ∧ J.stop l.length H2
def tI (K : PySem.W.Frag) (T : List (Addr × Str)) (W : WX) (f : SemI) : TI := fun σ H R => ∃ ρ st m P PX, RS K m H σ ρ ∧ Rel K T m st H ∧ f ρ st P PX ∧
  (∀ C l st', P C l st' → ∀ m' H' J, Grow m H m' H' → Rel K T m' st' H' → Wk K T J C l m' H' → R J H') ∧ FinX K T m H PX (fun c d H' => W c d σ H')
abbrev JI (X : Cx) (T : List (Addr × Str)) (W : WX) (tg it : Expr) (f : SemI) : Prop := PI X tg it (tI X.K T W f)
theorem PI.imp {X : Cx} {tg e : Expr} {t t' : TI} (h : PI X tg e t) (i : ∀ σ H R, t' σ H R → t σ H R) : PI X tg e t' := ⟨fun pins s σ H R I q => h.run pins s σ H R I (i σ H R q)⟩
def loopC (C : Store → Prop) (g : SemG) (t : SemS) (D : EndP) : List PV → Env → Store → Prop
  | [], ρ, st => C st ∧ D.nx ρ st
  | x :: r, ρ, st => C st ∧ g x ρ st fun ρ1 st1 => t { D with nx := loopC C g t D r, ct := loopC C g t D r, bk := D.nx } ρ1 st1
theorem loopC_C {C : Store → Prop} {g : SemG} {t : SemS} {D : EndP} {l : List PV} {ρ : Env} {st : Store} (h : loopC C g t D l ρ st) : C st := by
  cases l <;> exact h.1
def sForI (f : SemI) (g : SemG) (t : SemS) : SemS := fun D ρ st => f ρ st (fun C l st1 => loopC C g t D l ρ st1) (fun e st1 => D.ex e ρ st1)
section
variable {X : Cx} {T : List (Addr × Str)} {W : WX} {pos : Pos}
theorem s_forI {tg e : Expr} {f : SemI} {g : SemG} {t : SemS} {body : List Stmt} (hp : PassesOwn (model X.prog X.w) X.A X.env X.xe) (hc : X.calm = true) (hi : JI X T W tg e f) (hg : JG X T tg g) (hb : JSs X T W body t)
    (hs : ∀ x, foldedSetIterable e X.env x = pure x := by intro _; rfl) : JS X T W (.For tg e body [] pos) (sForI f g t) := PS.imp (ps_for hp hc hi hg hb hs) fun D σ H h => by
  obtain ⟨ρ, st, m, D', rs, rel, hf, fin⟩ := h
  refine ⟨ρ, st, m, _, _, rs, rel, hf, fun C l st1 hv m1 H1 J g1 rel1 wk => ?_, fin.finx rel rs⟩
  refine ⟨fun i mm σ2 H2 => mm = l.length - i ∧ i ≤ l.length ∧ ∃ ρ2 st2 m2, RS X.K m2 H2 σ2 ρ2 ∧ Rel X.K T m2 st2 H2 ∧ loopC C g t D' (l.drop i) ρ2 st2 ∧ Grow m1 H1 m2 H2, ⟨_, rfl, Nat.zero_le _, ρ, st1, m1, rs.grow rel g1, rel1, hv, Grow.refl⟩, ?_⟩
  rintro i mm σ2 H2 ⟨rfl, hi, ρ2, st2, m2, rs2, rel2, hl, g2⟩
  obtain ⟨w1, w2⟩ := wk m2 H2 st2 g2 rel2 (loopC_C hl)
  by_cases hlt : i < l.length
  · obtain ⟨w3, w4⟩ := w1 i l[i] (List.getElem?_eq_getElem hlt)
    refine .inr ⟨w3, fun σ' H' => ∃ ρ2 st2 m2, RS X.K m2 H' σ' ρ2 ∧ Rel X.K T m2 st2 H' ∧ loopC C g t D' (l.drop (i + 1)) ρ2 st2 ∧ Grow m1 H1 m2 H', fun σ' H' h' => ⟨_, by omega, rfl, hlt, h'⟩, fun y H' hy => ?_⟩
    obtain ⟨gn, reln, ry⟩ := w4 y H' hy
    rw [List.drop_eq_getElem_cons hlt] at hl
    have f2 := fin.step ((g1.trans g2).trans gn)
    refine ⟨_, ρ2, st2, m2, _, ry, rs2.grow rel2 gn, reln, hl.2, fun ρ3 st3 h3 σ3 m3 H3 g3 rel3 rs3 => ?_⟩
    have again : FinE X.K T m3 H3 (loopC C g t D' (l.drop (i + 1))) (fun σ' H' => ∃ ρ2 st2 m2, RS X.K m2 H' σ' ρ2 ∧ Rel X.K T m2 st2 H' ∧ loopC C g t D' (l.drop (i + 1)) ρ2 st2 ∧ Grow m1 H1 m2 H') := fun ρ4 st4 h4 σ4 m4 H4 g4 rel4 rs4 =>
      ⟨ρ4, st4, m4, rs4, rel4, h4, ((g2.trans gn).trans g3).trans g4⟩
    exact ⟨ρ3, st3, m3, _, rs3, rel3, h3, ⟨again, (f2.step g3).rt, (f2.step g3).nx, again, (f2.step g3).ex⟩⟩
  · have e : i = l.length := by omega
    subst e
    refine .inl ⟨w2, ?_⟩
    rw [List.drop_eq_nil_of_le (Nat.le_refl _)] at hl
    exact fin.nx ρ2 st2 hl.2 σ2 m2 H2 (g1.trans g2) rel2 rs2
end
def compC (C : Store → Prop) (n : Nat) (g : SemG) (c : SemT) (f : Sem) (P : PK) : List PV → Env → Store → Prop
  | [], _, st => C st ∧ P (.hd n) st
  | x :: r, ρ, st => C st ∧ g x ρ st fun ρ1 st1 => c ρ1 st1 (fun b st2 => match b with
      | true => f ρ1 st2 (fun v st3 => match st3[n]? with
        | some (.lst acc) => acc.length < 100000 ∧ compC C n g c f P r ρ (st3.set n (.lst (acc ++ [v])))
        | _ => False) (fun _ _ => False)
      | false => compC C n g c f P r ρ st2) (fun _ _ => False)
theorem compC_C {C : Store → Prop} {n : Nat} {g : SemG} {c : SemT} {f : Sem} {P : PK} {l : List PV} {ρ : Env} {st : Store} (h : compC C n g c f P l ρ st) : C st := by
  cases l <;> exact h.1
def sLcI (fi : SemI) (g : SemG) (vs : List Nat) (c : SemT) (f : Sem) : Sem := fun ρ st P PX => fi ρ st (fun C l st1 => compC C st1.length g c f P l (wipeE ρ vs) (st1 ++ [.lst []])) PX
def tGw (K : PySem.W.Frag) (T : List (Addr × Str)) (g : SemG) (vs : List Nat) : TG := fun x σ H Q => ∃ v ρ st m P, RV K m H x v ∧ RS K m H σ ρ ∧ Rel K T m st H ∧ g v ρ st P ∧
  ∀ ρ' st', P ρ' st' → ∀ σ' m' H', Grow m H m' H' → Rel K T m' st' H' → RS K m' H' σ' ρ' → wipe σ' vs = wipe σ vs → Q σ' H'
abbrev BlkW (X : Cx) (T : List (Addr × Str)) (scope : Scope) (tg : Expr) (g : SemG) (vs : List Nat) : Prop := ∀ (s : Shared) (H : Hp) (C : Addr) (cl : List (Str × Addr)) (fp : List Addr), PG (X.blk s H scope (compEnvC scope cl C X.env) fp) tg (tGw X.K T g vs)
theorem wipe_set {σ : L2.St} {i : Nat} {x : Option V} : ∀ {vs : List Nat}, i ∈ vs → wipe (σ.set i x) vs = wipe σ vs
  | v :: vs, h => by
    unfold wipe
    by_cases hi : i ∈ vs
    · rw [wipe_set hi]
    · have hv : i = v := by
        rcases List.mem_cons.mp h with e | e
        · exact e
        · exact absurd e hi
      subst hv
      have e : ∀ (ws : List Nat) (σ : L2.St), i ∉ ws → wipe (σ.set i x) ws = (wipe σ ws).set i x := by
        intro ws
        induction ws with
        | nil => intro σ _; rfl
        | cons w r ih =>
          intro σ hw
          unfold wipe
          rw [ih σ (fun z => hw (List.mem_cons_of_mem _ z)), List.set_comm _ _ (fun z => hw (by rw [z]; exact List.mem_cons_self))]
      rw [e vs σ hi, List.set_set]
theorem wipe_wipe {σ : L2.St} : ∀ {ws vs : List Nat}, (∀ w ∈ ws, w ∈ vs) → wipe (wipe σ ws) vs = wipe σ vs
  | [], vs, _ => rfl
  | w :: ws, vs, h => by
    show wipe ((wipe σ ws).set w none) vs = _
    rw [wipe_set (h w List.mem_cons_self)]
    exact wipe_wipe fun u hu => h u (List.mem_cons_of_mem _ hu)
section
variable {X : Cx} {T : List (Addr × Str)} {W : WX} {elt tg iter : Expr} {ifs : List Expr} {scope : Scope} {own : List (Str × Nat)} {pos : Pos} {fi : SemI} {g : SemG} {f : Sem} {c : SemT}
theorem gw_name {X : Cx} {i : Nat} {x : Str} {p : Pos} (h : PG X (.Name x p) (gName i)) : PG X (.Name x p) (tGw X.K T (kName i) [i]) := PG.imp h fun xv σ H Q h => by
  obtain ⟨v, ρ, st, m, P, rv, rs, rel, hg, fin⟩ := h
  exact fin _ st hg _ m H Grow.refl rel (rs.set i rv) (wipe_set (by simp))
theorem tLc_of {vs : List Nat} {σ : L2.St} {H : Hp} {Q : VK} (h : tE X.K T W (sLcI fi g vs c f) σ H Q) : tLc (tI X.K T W fi) (tGw X.K T g vs) (tT X.K T W0 c) (tE X.K T W0 f) vs σ H Q := by
  obtain ⟨ρ, st, m, P, PX, rs, rel, hq, fin, finx⟩ := h
  refine ⟨ρ, st, m, _, PX, rs, rel, hq, fun C l st1 hv m1 H1 J g1 rel1 wk => ?_, finx⟩
  intro D hD
  obtain ⟨gs, rels, hDs⟩ := comp_start rel1 hD
  have hw := wipe_rs ((rs.grow rel g1).grow rel1 gs) vs
  refine ⟨fun k mm H2 => mm = l.length - k ∧ k ≤ l.length ∧ ∃ st2 m2, Rel X.K T m2 st2 H2 ∧ Grow (m1 ++ [D]) (upd H1 D (.lst [])) m2 H2 ∧ m2[st1.length]? = some D ∧ compC C st1.length g c f P (l.drop k) (wipeE ρ vs) st2, ⟨_, rfl, Nat.zero_le _, _, _, rels, Grow.refl, hDs, hv⟩, ?_⟩
  rintro k mm H2 ⟨rfl, hk, st2, m2, rel2, g2, hD2, hcl⟩
  obtain ⟨w1, w2⟩ := wk m2 H2 st2 (gs.trans g2) rel2 (compC_C hcl)
  by_cases hlt : k < l.length
  · obtain ⟨w3, w4⟩ := w1 k l[k] (List.getElem?_eq_getElem hlt)
    refine .inr ⟨w3, fun H3 => ∃ st2 m2, Rel X.K T m2 st2 H3 ∧ Grow (m1 ++ [D]) (upd H1 D (.lst [])) m2 H3 ∧ m2[st1.length]? = some D ∧ compC C st1.length g c f P (l.drop (k + 1)) (wipeE ρ vs) st2, fun H3 h3 => ⟨_, by omega, rfl, hlt, h3⟩, fun y H3 hy => ?_⟩
    obtain ⟨gn, reln, ry⟩ := w4 y H3 hy
    rw [List.drop_eq_getElem_cons hlt] at hcl
    refine ⟨_, _, st2, m2, _, ry, (hw.grow rels g2).grow rel2 gn, reln, hcl.2, fun ρ3 st3 h3 σ3 m3 H3' g3 rel3 rs3 hwip => ?_⟩
    refine ⟨by rw [hwip, wipe_wipe fun w h => h], ρ3, st3, m3, _, _, rs3, rel3, h3, fun b st4 hb m4 H4 g4 rel4 => ?_, fun _ _ p => p.elim⟩
    have hD4 := get_grow g4 (get_grow g3 (get_grow gn hD2))
    have g24 := ((g2.trans gn).trans g3).trans g4
    cases b with
    | true =>
      dsimp only
      rw [if_pos rfl]
      refine ⟨_, st4, m4, _, _, rs3.grow rel3 g4, rel4, hb, fun v st5 hv y5 m5 H5 g5 rel5 ry5 => ?_, fun _ _ p => p.elim⟩
      dsimp only at hv
      split at hv
      · rename_i acc hacc
        have hD5 := get_grow g5 hD4
        obtain ⟨ys, hq5, hys⟩ := rel5.ob _ _ _ hD5 hacc
        have g6 : Grow m5 H5 m5 (L2.upd H5 D (.lst (ys ++ [y5]))) := Grow.upd hD5 hq5
        exact ⟨ys, hq5, Nat.lt_of_lt_of_le (by rw [hys.length]; exact hv.1) (by decide), _, m5, rel5.upd hD5 hq5 (hys.append (.cons ry5 .nil)), (g24.trans g5).trans g6, hD5, hv.2⟩
      · exact hv.elim
    | false =>
      dsimp only
      rw [if_neg Bool.false_ne_true]
      exact ⟨st4, m4, rel4, g24, hD4, hb⟩
  · have e : k = l.length := by omega
    subst e
    refine .inl ⟨w2, ?_⟩
    rw [List.drop_eq_nil_of_le (Nat.le_refl _)] at hcl
    exact fin _ st2 hcl.2 _ m2 H2 ((g1.trans gs).trans g2) rel2 (.hd hD2 (g2.kd _ _ ⟨_, upd_same, rfl⟩))
theorem w_lcI (hc : X.calm = true) (hN : X.N.Nodup) (hi : JI X T W tg iter fi) (ok : BlkOk X.N X.env.scope scope own) (hg : BlkW X T scope tg g (own.map (·.2))) (ht : BlkT X T scope ifs c) (hel : BlkE X T scope elt f)
    (hs : ∀ y, foldedSetIterable iter X.env y = pure y := by intro _; rfl) : JE X T W (.ListComp elt [⟨tg, iter, ifs, 0⟩] scope pos) (sLcI fi g (own.map (·.2)) c f) := PE.imp (pe_lc (wi := tI X.K T W fi) (g := tGw X.K T g (own.map (·.2))) (tt := tT X.K T W0 c) (te := tE X.K T W0 f) hc hN hi ok hg ht hel hs) fun σ H Q h => tLc_of h
end
end Sm
set_option Elab.async false
set_option linter.all false
set_option maxRecDepth 100000
set_option maxHeartbeats 1000000
namespace Sm
open PySem PySem.Spec PyProof.Rows L2
def iSeqA (K : PySem.W.Frag) (tl : TE) : TI := fun σ H R => tl σ H fun x H1 => ∃ a, x = .ref a ∧ (((∃ xs, SqL K H1 a xs) ∧ R (Itl K a) H1) ∨ ((∃ xs, SqT K H1 a xs) ∧ R (Itt K a) H1))
theorem pi_seqA {X : Cx} {tg l : Expr} {tl : TE} (hl : PE X l tl) : PI X tg l (iSeqA X.K tl) := by
  refine ⟨fun pins s σ H R I h => ?_⟩
  refine thn (hl.run pins s σ H _ I h) fun v s1 ⟨x, H1, I1, r1, q1⟩ => ?_
  obtain ⟨a, e, q⟩ := q1
  subst e
  cases r1
  rcases q with ⟨⟨xs, hq⟩, q⟩ | ⟨⟨xs, hq⟩, q⟩
  · obtain ⟨its, rv, p, hz⟩ := I1.list hq
    refine wpAny_pyIter_list p.isList ?_
    refine ⟨s1.heap.objs.size, [s1.heap.objs.size], _, _, H1, rfl, I1.kept (t' := s1.toks) fun b o e => Heap.get?_push_of_some _ e, turn_list a _, ⟨_, Heap.get?_push_size _ rfl, rfl, rfl⟩, fun b hb => ?_, q⟩
    have e : b = s1.heap.objs.size := by simpa using hb
    subst e
    exact I1.fpOk (Nat.le_refl _) (I1.hok.fresh (Nat.le_refl _))
  · obtain ⟨its, rv, p, hz⟩ := I1.tuple hq
    refine wpAny_pyIter_tuple (show s1.heap.IsTuple a its.toArray from p) ?_
    refine ⟨s1.heap.objs.size, [s1.heap.objs.size], _, _, H1, rfl, I1.kept (t' := s1.toks) fun b o e => Heap.get?_push_of_some _ e, turn_tuple a _, ⟨_, Heap.get?_push_size _ rfl, rfl, rfl⟩, fun b hb => ?_, q⟩
    have e : b = s1.heap.objs.size := by simpa using hb
    subst e
    exact I1.fpOk (Nat.le_refl _) (I1.hok.fresh (Nat.le_refl _))
section
variable {K : PySem.W.Frag} {T : List (Addr × Str)} {C : Store → Prop} {l : List PV} {m : List Addr} {H : Hp} {a : Addr}
theorem wk_l (h : ∀ m2 H2 st2, Grow m H m2 H2 → Rel K T m2 st2 H2 → C st2 → ∃ xs, SqL K H2 a xs ∧ RVs K m2 H2 xs l) : Wk K T (Itl K a) C l m H := fun m2 H2 st2 g rel hC => by
  obtain ⟨xs, hq, hs⟩ := h m2 H2 st2 g rel hC
  refine ⟨fun k v hk => ?_, ⟨xs, hq, by rw [hs.length]; exact Nat.le_refl _⟩⟩
  obtain ⟨y, e1, ry⟩ := hs.get hk
  refine ⟨⟨xs, y, hq, e1⟩, fun x H' hy => ?_⟩
  obtain ⟨rfl, hy⟩ := hy
  have e2 := hy xs hq
  rw [e1] at e2
  cases e2
  exact ⟨Grow.refl, rel, ry⟩
theorem wk_t (h : ∀ m2 H2 st2, Grow m H m2 H2 → Rel K T m2 st2 H2 → C st2 → ∃ xs, SqT K H2 a xs ∧ RVs K m2 H2 xs l) : Wk K T (Itt K a) C l m H := fun m2 H2 st2 g rel hC => by
  obtain ⟨xs, hq, hs⟩ := h m2 H2 st2 g rel hC
  refine ⟨fun k v hk => ?_, ⟨xs, hq, by rw [hs.length]; exact Nat.le_refl _⟩⟩
  obtain ⟨y, e1, ry⟩ := hs.get hk
  refine ⟨⟨xs, y, hq, e1⟩, fun x H' hy => ?_⟩
  obtain ⟨rfl, hy⟩ := hy
  have e2 := hy xs hq
  rw [e1] at e2
  cases e2
  exact ⟨Grow.refl, rel, ry⟩
end
def any : Store → Prop := fun _ => True
/-- what a list, a tuple yields; a handle must stay as it is -/
def sISeq (f : Sem) : SemI := fun ρ st P PX => f ρ st (fun v st1 => match v with
  | .lst l => P any l st1
  | .tup l => P any l st1
  | .hd n => match st1[n]? with
    | some (.lst l) => P (fun s => s[n]? = some (.lst l)) l st1
    | _ => False
  | _ => False) PX
section
variable {X : Cx} {T : List (Addr × Str)} {W : WX} {tg e a b : Expr} {p pos tpos : Pos} {f f' : Sem} {g : SemA} {elts : List Expr} {kk : Nat}
theorem i_seq (he : JE X T W e f) : JI X T W tg e (sISeq f) := PI.imp (pi_seqA he) fun σ H R h => by
  obtain ⟨ρ, st, m, P, PX, rs, rel, hf, fin, finx⟩ := h
  refine ⟨ρ, st, m, _, PX, rs, rel, hf, fun v st1 hv x m1 H1 g1 rel1 rv1 => ?_, finx⟩
  dsimp only at hv
  split at hv
  · cases rv1 with
    | lst hq hs => exact ⟨_, rfl, .inl ⟨⟨_, hq.sq⟩, fin _ _ st1 hv m1 H1 _ g1 rel1 (wk_l fun m2 H2 st2 g2 rel2 _ => ⟨_, (lsr_grow rel1 g2 hq).sq, hs.grow rel1 g2⟩)⟩⟩
  · cases rv1 with
    | tup hq hs => exact ⟨_, rfl, .inr ⟨⟨_, hq⟩, fin _ _ st1 hv m1 H1 _ g1 rel1 (wk_t fun m2 H2 st2 g2 rel2 _ => ⟨_, sqt_grow rel1 g2 hq, hs.grow rel1 g2⟩)⟩⟩
  · split at hv
    · rename_i hl
      cases rv1 with
      | hd hn _ =>
        obtain ⟨xs, hq, hs⟩ := rel1.ob _ _ _ hn hl
        refine ⟨_, rfl, .inl ⟨⟨_, SqL.of hq⟩, fin _ _ st1 hv m1 H1 _ g1 rel1 (wk_l fun m2 H2 st2 g2 rel2 hC => ?_)⟩⟩
        obtain ⟨ys, hq2, hs2⟩ := rel2.ob _ _ _ (get_grow g2 hn) hC
        exact ⟨ys, SqL.of hq2, hs2⟩
    · exact hv.elim
  · exact hv.elim
theorem upto_get (lo : Int) : ∀ (n k : Nat) (v : PV), (upto lo n)[k]? = some v → v = .int (lo + k)
  | 0, k, v, h => by simp [upto] at h
  | n + 1, 0, v, h => by simp [upto] at h; simp [h]
  | n + 1, k + 1, v, h => by
    have := upto_get (lo + 1) n k v (by simpa [upto] using h)
    rw [this]
    congr 1
    push_cast
    omega
theorem wk_r {K : PySem.W.Frag} {T : List (Addr × Str)} {C : Store → Prop} {m : List Addr} {H : Hp} {lo : Int} {n : Nat} : Wk K T (Itr lo n) C (upto lo n) m H := fun m2 H2 st2 g rel hC => by
  refine ⟨fun k v hk => ?_, by show n ≤ _; rw [upto_len]; exact Nat.le_refl _⟩
  have hlt := (List.getElem?_eq_some_iff.mp hk).1
  rw [upto_len] at hlt
  rw [upto_get lo n k v hk]
  refine ⟨hlt, fun x H' hy => ?_⟩
  obtain ⟨rfl, rfl⟩ := hy
  exact ⟨Grow.refl, rel, .int _⟩
end
def kTup3 (i j k : Nat) : SemG := fun v ρ st P => match v with
  | .tup [a, b, c] => P (((ρ.set i (some a)).set j (some b)).set k (some c)) st
  | _ => False
theorem RVs.inv {K : PySem.W.Frag} {m : List Addr} {H : Hp} {xs : List V} {v : PV} {vs : List PV} (r : RVs K m H xs (v :: vs)) : ∃ x r, xs = x :: r ∧ RV K m H x v ∧ RVs K m H r vs := by
  cases r with
  | cons a b => exact ⟨_, _, rfl, a, b⟩
section
variable {X : Cx} {T : List (Addr × Str)} {pos : Pos}
theorem g_tup3 {i j n : Nat} {x y z : Str} {p1 p2 p3 : Pos} {k : Nat} (hc : X.calm = true) (h1 : PG X (.Name x p1) (gName i)) (h2 : PG X (.Name y p2) (gName j)) (h3 : PG X (.Name z p3) (gName n)) :
    JG X T (.Tuple [.Name x p1, .Name y p2, .Name z p3] k pos) (kTup3 i j n) :=
  PG.imp (pg_tup hc (pgs_cons h1 (pgs_cons h2 (pgs_cons h3 pgs_nil)))) fun xv σ H Q h => by
    obtain ⟨v, ρ, st, m, P, rv, rs, rel, hg, fin⟩ := h
    unfold kTup3 at hg
    split at hg
    · cases rv with
      | tup hq hs =>
        obtain ⟨a1, _, rfl, r1, hs⟩ := hs.inv
        obtain ⟨b1, _, rfl, r2, hs⟩ := hs.inv
        obtain ⟨c1, _, rfl, r3, hs⟩ := hs.inv
        cases hs
        exact ⟨_, _, rfl, hq, rfl, a1, _, rfl, b1, _, rfl, c1, _, rfl, rfl, fin _ st hg _ m H Grow.refl rel (((rs.set i r1).set j r2).set n r3)⟩
    · exact hg.elim
end
end Sm
set_option Elab.async false
set_option linter.all false
set_option maxRecDepth 100000
set_option maxHeartbeats 1000000
namespace PySem
open Sem (wp)
open AutoSeq1 (wpAny_loadPart')
end PySem
namespace Sm
open PySem PySem.Spec PyProof.Rows L2
def enumP (i : Nat) : List PV → List PV
  | [] => []
  | v :: r => .tup [.int (i : Nat), v] :: enumP (i + 1) r
theorem enumP_get : ∀ (l : List PV) (i k : Nat) (w : PV), (enumP i l)[k]? = some w → ∃ v, l[k]? = some v ∧ w = .tup [.int ((i + k : Nat) : Nat), v]
  | [], i, k, w, h => by simp [enumP] at h
  | v :: r, i, 0, w, h => by
    simp [enumP] at h
    exact ⟨v, rfl, h.symm⟩
  | v :: r, i, k + 1, w, h => by
    obtain ⟨u, e1, e2⟩ := enumP_get r (i + 1) k w (by simpa [enumP] using h)
    exact ⟨u, by simpa using e1, by rw [e2, show i + 1 + k = i + (k + 1) by omega]⟩
theorem enumP_len : ∀ (l : List PV) (i : Nat), (enumP i l).length = l.length
  | [], _ => rfl
  | v :: r, i => by simp [enumP, enumP_len r (i + 1)]
end Sm
set_option Elab.async false
set_option linter.all false
set_option maxRecDepth 100000
set_option maxHeartbeats 1000000
namespace Sm
open PySem PySem.Spec PyProof.Rows L2
end Sm
set_option Elab.async false
set_option linter.all false
set_option maxRecDepth 100000
set_option maxHeartbeats 1000000
namespace Sm
open PySem PySem.Spec PyProof.Rows L2
section
variable {X : Cx} {T : List (Addr × Str)} {W : WX} {tg e a b : Expr} {x : Str} {p pos tpos : Pos} {f f' : Sem} {g : SemA} {es : List Expr}
def sIRng1 (f : Sem) : SemI := fun ρ st P PX => f ρ st (fun v st1 => match v with
  | .int n => (-(2 ^ 62) ≤ n ∧ n < 2 ^ 62) ∧ P any (upto 0 n.toNat) st1
  | _ => False) PX
theorem i_rng1 (hgl : Gl X "range") (hm : X.mg "range" = none) (he : JE X T W e f) (h1 : starEach [e] X.env = (false, eval e X.env) :: starEach [] X.env := by rfl) (h2 : starEach [e] X.env = [(false, eval e X.env)] := by rfl) :
    JI X T W tg (.Call (.Name "range" p) [e] [] pos) (sIRng1 f) := PI.imp (pi_range1 hgl hm (pa_cons he pa_nil h1) h2) fun σ H R h => by
  obtain ⟨ρ, st, m, P, PX, rs, rel, hf, fin, finx⟩ := h
  refine ⟨ρ, st, m, _, PX, rs, rel, hf, fun v st1 hv x m1 H1 g1 rel1 rv1 => ?_, finx⟩
  dsimp only at hv
  split at hv
  · cases rv1
    exact ⟨_, rfl, hv.1.1, hv.1.2, fin _ _ st1 hv.2 m1 H1 _ g1 rel1 wk_r⟩
  · exact hv.elim
end
theorem hu_of1 {k : Nat} {A : Around} (hr : Room k A) : A.units + 1 < cLine := by
  have := hr.un
  omega
end Sm
set_option Elab.async false
set_option linter.all false
set_option maxRecDepth 100000
set_option maxHeartbeats 1000000
namespace Sm
open PySem PySem.Spec PyProof.Rows L2
end Sm
set_option Elab.async false
set_option linter.all false
set_option maxRecDepth 100000
set_option maxHeartbeats 1000000
namespace Sm
open PySem PySem.Spec PyProof.Rows L2
def kIx (fo fi : Sem) : SemG := fun v ρ st P => fo ρ st (fun o st1 => fi ρ st1 (fun i st2 => match o, i with
  | .hd n, .int k => match st2[n]? with
    | some (.lst l) => match ixN l.length k with
      | some j => P ρ (st2.set n (.lst (l.set j v)))
      | none => False
    | _ => False
  | _, _ => False) (fun _ _ => False)) (fun _ _ => False)
end Sm
set_option Elab.async false
set_option linter.all false
set_option maxRecDepth 100000
set_option maxHeartbeats 1000000
namespace Sm
open PySem PySem.Spec PyProof.Rows L2
end Sm
set_option Elab.async false
set_option linter.all false
set_option maxRecDepth 100000
set_option maxHeartbeats 1000000
namespace Sm
open PySem PySem.Spec PyProof.Rows L2
end Sm
set_option Elab.async false
set_option linter.all false
set_option maxRecDepth 100000
set_option maxHeartbeats 1000000
namespace Sm
open PySem PySem.Spec PyProof.Rows L2
def putA (f : Str) (v : PV) : List (Str × PV) → List (Str × PV)
  | [] => [(f, v)]
  | (g, w) :: r => if g = f then (g, v) :: r else (g, w) :: putA f v r
theorem RVs.look {K : PySem.W.Frag} {m : List Addr} {H : Hp} {f : Str} {v : PV} : ∀ {kvs : List (Str × V)} {fs : List (Str × PV)}, kvs.map (·.1) = fs.map (·.1) → RVs K m H (kvs.map (·.2)) (fs.map (·.2)) → fs.lookup f = some v → ∃ x, kvs.lookup f = some x ∧ RV K m H x v
  | [], [], _, _, h => by cases h
  | [], _ :: _, e, _, _ => by cases e
  | _ :: _, [], e, _, _ => by cases e
  | (g, x) :: kr, (g', w) :: fr, e, r, h => by
    simp only [List.map_cons, List.cons.injEq] at e
    obtain ⟨rfl, e⟩ := e
    simp only [List.map_cons] at r
    cases r with
    | cons r1 r2 =>
      simp only [List.lookup_cons] at h ⊢
      by_cases hg : (f == g) = true
      · rw [hg] at h ⊢
        cases h
        exact ⟨x, rfl, r1⟩
      · rw [Bool.not_eq_true] at hg
        rw [hg] at h ⊢
        exact RVs.look e r2 h
theorem look_none {f : Str} : ∀ {kvs : List (Str × V)} {fs : List (Str × PV)}, kvs.map (·.1) = fs.map (·.1) → fs.lookup f = none → kvs.lookup f = none
  | [], [], _, _ => rfl
  | [], _ :: _, e, _ => by cases e
  | _ :: _, [], e, _ => by cases e
  | (g, x) :: kr, (g', w) :: fr, e, h => by
    simp only [List.map_cons, List.cons.injEq] at e
    obtain ⟨rfl, e⟩ := e
    simp only [List.lookup_cons] at h ⊢
    by_cases hg : (f == g) = true
    · rw [hg] at h
      cases h
    · rw [Bool.not_eq_true] at hg
      rw [hg] at h ⊢
      exact look_none e h
theorem put_rel {K : PySem.W.Frag} {m : List Addr} {H : Hp} {f : Str} {v : PV} {x : V} (rx : RV K m H x v) : ∀ {kvs : List (Str × V)} {fs : List (Str × PV)}, kvs.map (·.1) = fs.map (·.1) → RVs K m H (kvs.map (·.2)) (fs.map (·.2)) →
    (putF f x kvs).map (·.1) = (putA f v fs).map (·.1) ∧ RVs K m H ((putF f x kvs).map (·.2)) ((putA f v fs).map (·.2))
  | [], [], _, _ => ⟨rfl, .cons rx .nil⟩
  | [], _ :: _, e, _ => by cases e
  | _ :: _, [], e, _ => by cases e
  | (g, y) :: kr, (g', w) :: fr, e, r => by
    simp only [List.map_cons, List.cons.injEq] at e
    obtain ⟨rfl, e⟩ := e
    simp only [List.map_cons] at r
    cases r with
    | cons r1 r2 =>
      by_cases hg : g = f
      · subst hg
        have e1 : putF g x ((g, y) :: kr) = (g, x) :: kr := by simp [putF]
        have e2 : putA g v ((g, w) :: fr) = (g, v) :: fr := by simp [putA]
        rw [e1, e2]
        exact ⟨by simp [e], .cons rx r2⟩
      · have e1 : putF f x ((g, y) :: kr) = (g, y) :: putF f x kr := by simp [putF, hg]
        have e2 : putA f v ((g, w) :: fr) = (g, w) :: putA f v fr := by simp [putA, hg]
        obtain ⟨h1, h2⟩ := put_rel rx e r2
        rw [e1, e2]
        exact ⟨by simp [h1], .cons r1 h2⟩
/-- the attributes of an instance of the class at C -/
def insAt (C : Addr) (st : Store) : PV → Option (List (Str × PV))
  | .oh n => match st[n]? with
    | some (.ins C' fs) => if C' = C then some fs else none
    | _ => none
  | _ => none
theorem insAt_ok {K : PySem.W.Frag} {T : List (Addr × Str)} {m : List Addr} {H : Hp} {st : Store} {C : Addr} {x : V} {v : PV} {fs : List (Str × PV)} (rel : Rel K T m st H) (r : RV K m H x v) (h : insAt C st v = some fs) :
    ∃ (n : Nat) (a dx : Addr) (kvs : List (Str × V)), v = .oh n ∧ x = .ref a ∧ m[n]? = some a ∧ st[n]? = some (.ins C fs) ∧ H a = some (.ins C dx kvs) ∧ kvs.map (·.1) = fs.map (·.1) ∧ RVs K m H (kvs.map (·.2)) (fs.map (·.2)) := by
  unfold insAt at h
  split at h
  · rename_i n
    split at h
    · rename_i C' fs' hst
      split at h
      · rename_i hc
        subst hc
        cases h
        cases r with
        | @oh a _ hn _ =>
          obtain ⟨dx, kvs, e1, e2, e3⟩ := rel.ob _ _ _ hn hst
          exact ⟨n, a, dx, kvs, rfl, rfl, hn, hst, e1, e2, e3⟩
      · cases h
    · cases h
  · cases h
def sAtt (C : Addr) (f : Str) (g : Sem) : Sem := fun ρ st P PX => g ρ st (fun x st1 => match insAt C st1 x with
  | some fs => match fs.lookup f with
    | some v => P v st1
    | none => False
  | none => False) PX
section
variable {X : Cx} {T : List (Addr × Str)} {W : WX} {pos : Pos} {e : Expr} {f : Str} {g : Sem} {C : Addr}
theorem w_att (c : Cls X.K C) (n : NoAttr X.K C f) (he : JE X T W e g) (hb : attributeBase e f X.env (eval e X.env) = eval e X.env := by rfl) : JE X T W (.Attribute e f pos) (sAtt C f g) := PE.imp (pe_fld he hb) fun σ H Q h => by
  obtain ⟨ρ, st, m, P, PX, rs, rel, hf, fin, finx⟩ := h
  refine ⟨ρ, st, m, _, PX, rs, rel, hf, fun v st1 hv x m1 H1 g1 rel1 rv1 => ?_, finx⟩
  dsimp only at hv
  split at hv
  · rename_i fs hfs
    split at hv
    · rename_i w hw
      obtain ⟨n', a, dx, kvs, rfl, rfl, hm, hst, ha, hk, hr⟩ := insAt_ok rel1 rv1 hfs
      obtain ⟨y, hy, ry⟩ := RVs.look hk hr hw
      exact ⟨a, C, dx, kvs, y, rfl, ha, c, n, hy, fin _ st1 hv _ m1 H1 g1 rel1 ry⟩
    · exact hv.elim
  · exact hv.elim
def sSetAtt (C : Addr) (f : Str) (fo fv : Sem) : SemS := fun D ρ st => fv ρ st (fun v st1 => fo ρ st1 (fun o st2 => match o with
  | .oh n => match insAt C st2 (.oh n) with
    | some fs => fs.length < 1000 ∧ D.nx ρ (st2.set n (.ins C (putA f v fs)))
    | none => False
  | _ => False) (fun e st2 => D.ex e ρ st2)) (fun e st1 => D.ex e ρ st1)
theorem s_setAtt {o value : Expr} {pos' : Pos} {fo fv : Sem} (c : Cls X.K C) (n : NoAttr X.K C f) (ho : JE X T W o fo) (hv : JE X T W value fv) (hs : swapsWith value (some (.Attribute o f pos')) pos.line X.env = pure false := by rfl) :
    JS X T W (.Assign [.Attribute o f pos'] value pos) (sSetAtt C f fo fv) := PS.imp (ps_fld ho hv hs) fun D σ H h => by
  obtain ⟨ρ, st, m, D', rs, rel, hf, fin⟩ := h
  refine ⟨ρ, st, m, _, _, rs, rel, hf, fun v st1 hv x m1 H1 g1 rel1 rv1 => ?_, fin.finx rel rs⟩
  refine ⟨ρ, st1, m1, _, _, rs.grow rel g1, rel1, hv, fun w st2 hw y m2 H2 g2 rel2 rv2 => ?_, (fin.finx rel rs).step g1⟩
  dsimp only at hw
  split at hw
  · rename_i k
    split at hw
    · rename_i fs hfs
      obtain ⟨hl, hw⟩ := hw
      obtain ⟨n', a, dx, kvs, e1, rfl, hm, hst, ha, hk, hr⟩ := insAt_ok rel2 rv2 hfs
      cases e1
      have rx := rv1.grow rel1 g2
      have g3 : Grow m2 H2 m2 (L2.upd H2 a (.ins C dx (putF f x kvs))) := Grow.upd hm ha
      obtain ⟨p1, p2⟩ := put_rel (f := f) rx hk hr
      have rel3 : Rel X.K T m2 (st2.set k (.ins C (putA f v fs))) (L2.upd H2 a (.ins C dx (putF f x kvs))) :=
        rel2.updO hm ha rfl (by intro _ z; cases z) ⟨dx, _, upd_same, p1, p2.grow rel2 g3⟩
      have hl2 : kvs.length = fs.length := by
        have := congrArg List.length hk
        simpa using this
      exact ⟨a, C, dx, kvs, rfl, ha, c, n, by rw [hl2]; exact hl, fin.nx _ _ hw σ m2 _ ((g1.trans g2).trans g3) rel3 (((rs.grow rel g1).grow rel1 g2).grow rel2 g3)⟩
    · exact hw.elim
  · exact hw.elim
end
/-- the method's promise: self, then the written arguments, then the defaults -/
structure Gm (P : Program) (w : World) (K : PySem.W.Frag) (T : List (Addr × Str)) (mg : Str → Option Value) (base : Heap) (k : Nat) (C : Addr) (x : Str) (ps : List Str) (dv : List PV) (S : SpecF) : Prop where
  ex : ∃ (f : Addr) (fd : FuncData) (ds : List Value) (dvs : List V), Meth K C x f ∧ Binds K fd ps ds ∧ Vals dvs ds ∧ (∀ m H, RVs K m H dvs dv) ∧ FnG P w K T mg base false k f fd ps S
def sMeth (C : Addr) (x : Str) (S : SpecF) (dv : List PV) (fo : Sem) (g : SemA) : Sem := fun ρ st P PX => fo ρ st (fun o st1 => match insAt C st1 o with
  | some fs => fs.lookup x = none ∧ g ρ st1 (fun vs st2 => S (o :: (vs ++ dv)) st2 P PX) PX
  | none => False) PX
section
variable {X : Cx} {T : List (Addr × Str)} {W : WX} {pos apos : Pos} {o e : Expr} {es : List Expr} {x : Str} {fo : Sem} {g : SemA} {C : Addr} {k j : Nat} {ps : List Str} {dv : List PV} {S : SpecF}
theorem w_meth {pl : PySem.Sem Bool} (c : Cls X.K C) (G : Gm X.prog X.w X.K T X.mg X.base k C x ps dv S) (hr : Room j X.A) (hkj : k ≤ j) (tk : Takes X W) (ho : JE X T W o fo) (ha : JA X T W (e :: es) g)
    (hst : starEach (e :: es) X.env = (false, eval e X.env) :: starEach es X.env := by rfl) (hpl : (backTo pos (starEach es X.env)).any (·.1) = false := by rfl)
    (ht : eval (.Call (.Attribute o x apos) (e :: es) [] pos) X.env = (do
      let ov ← eval o X.env
      standAt apos.atName
      let (f, first) ← holding [ov] (getMethod ov x pl)
      callWith pos f first (backTo pos (starEach (e :: es) X.env)) (backToKw pos (keywordEach [] X.env))) := by rfl) :
    JE X T W (.Call (.Attribute o x apos) (e :: es) [] pos) (sMeth C x S dv fo g) := by
  obtain ⟨f, fd, ds, dvs, hm, h3, h4, h5, F⟩ := G.ex
  refine ⟨fun pins s σ H Q I h => ?_⟩
  obtain ⟨ρ, st, m, P, PX, rs, rel, hf, fin, finx⟩ := h
  have h1 : tE X.K T W fo σ H (fun xv H1 => ∃ a dx kvs, xv = .ref a ∧ H1 a = some (.ins C dx kvs) ∧ kvs.lookup x = none ∧ tA X.K T W g σ H1 (fun xs H2 => spOf X.K T S (xv :: (xs ++ dvs)) H2 Q (fun c d H' => W c d σ H'))) := by
    refine ⟨ρ, st, m, _, PX, rs, rel, hf, fun v st1 hv xv m1 H1 g1 rel1 rv1 => ?_, finx⟩
    dsimp only at hv
    split at hv
    · rename_i fs hfs
      obtain ⟨n', a, dx, kvs, rfl, rfl, hm', hst', ha', hk, hr'⟩ := insAt_ok rel1 rv1 hfs
      exact ⟨a, dx, kvs, rfl, ha', look_none hk hv.1, ρ, st1, m1, _, PX, rs.grow rel g1, rel1, hv.2, fun vs st2 hv2 xs m2 H2 g2 rel2 rv2 => ⟨_, st2, m2, P, PX, .cons (rv1.grow rel1 g2) (rv2.append (h5 m2 H2)), rel2, hv2, (fin.step g1).step g2, (finx.step g1).step g2⟩, finx.step g1⟩
    · exact hv.elim
  refine PySem.W.methodCall_KW (pl := pl) (thn (ho.run pins s σ H _ I h1) fun u s1 ⟨xv, H1, I1, rx, a, dx, kvs, ex, ea, l, q⟩ => ?_) ht
  subst ex
  obtain rfl : u = Value.ref a := rx
  refine getmeth_ok I1 ea c hm l ?_
  refine PySem.W.callWith_K (first := [.ref a]) (h₀ := X.base) I.ok.mod.kin hm.kp (thn (ha.run pos pins s1 σ H1 _ I1 q) fun us s2 ⟨vs, H2, I2, r, q2⟩ => ⟨I2.kIn, ?_⟩) hst hpl
  exact run_g (us := .ref a :: us) (vs := .ref a :: vs) F (hr.mono hkj) Gu.no h3 h4 tk I2 (.cons rfl r) q2
theorem w_meth0 {pl : PySem.Sem Bool} (c : Cls X.K C) (G : Gm X.prog X.w X.K T X.mg X.base k C x ps dv S) (hr : Room j X.A) (hkj : k ≤ j) (tk : Takes X W) (ho : JE X T W o fo)
    (ht : eval (.Call (.Attribute o x apos) [] [] pos) X.env = (do
      let ov ← eval o X.env
      standAt apos.atName
      let (f, first) ← holding [ov] (getMethod ov x pl)
      callWith pos f first (backTo pos (starEach [] X.env)) (backToKw pos (keywordEach [] X.env))) := by rfl) :
    JE X T W (.Call (.Attribute o x apos) [] [] pos) (sMeth C x S dv fo sNil) := by
  obtain ⟨f, fd, ds, dvs, hm, h3, h4, h5, F⟩ := G.ex
  refine ⟨fun pins s σ H Q I h => ?_⟩
  obtain ⟨ρ, st, m, P, PX, rs, rel, hf, fin, finx⟩ := h
  have h1 : tE X.K T W fo σ H (fun xv H1 => ∃ a dx kvs, xv = .ref a ∧ H1 a = some (.ins C dx kvs) ∧ kvs.lookup x = none ∧ spOf X.K T S (xv :: ([] ++ dvs)) H1 Q (fun c d H' => W c d σ H')) := by
    refine ⟨ρ, st, m, _, PX, rs, rel, hf, fun v st1 hv xv m1 H1 g1 rel1 rv1 => ?_, finx⟩
    dsimp only at hv
    split at hv
    · rename_i fs hfs
      obtain ⟨n', a, dx, kvs, rfl, rfl, hm', hst', ha', hk, hr'⟩ := insAt_ok rel1 rv1 hfs
      exact ⟨a, dx, kvs, rfl, ha', look_none hk hv.1, _, st1, m1, P, PX, .cons rv1 (h5 m1 H1), rel1, hv.2, fin.step g1, finx.step g1⟩
    · exact hv.elim
  refine PySem.W.methodCall_KW (pl := pl) (thn (ho.run pins s σ H _ I h1) fun u s1 ⟨xv, H1, I1, rx, a, dx, kvs, ex, ea, l, q⟩ => ?_) ht
  subst ex
  obtain rfl : u = Value.ref a := rx
  refine getmeth_ok I1 ea c hm l ?_
  exact PySem.W.callWith_K0 (first := [.ref a]) I1.kIn hm.kp (run_g (us := [.ref a]) (vs := [.ref a]) F (hr.mono hkj) Gu.no h3 h4 tk I1 (.cons rfl .nil) q)
end
structure Gi (P : Program) (w : World) (K : PySem.W.Frag) (T : List (Addr × Str)) (mg : Str → Option Value) (base : Heap) (k : Nat) (x : Str) (ps : List Str) (dv : List PV) (S : SpecF) : Prop where
  ex : ∃ (f : Addr) (fd : FuncData) (ds : List Value) (dvs : List V), mg x = some (.ref (ad mg x)) ∧ Mk K (ad mg x) f ∧ Binds K fd ps ds ∧ Vals dvs ds ∧ (∀ m H, RVs K m H dvs dv) ∧ FnG P w K T mg base false k f fd ps S
def sMake (C : Addr) (S : SpecF) (dv : List PV) (g : SemA) : Sem := fun ρ st P PX => g ρ st (fun vs st1 => S (.oh st1.length :: (vs ++ dv)) (st1 ++ [.ins C []]) (fun v st2 => v = .non ∧ P (.oh st1.length) st2) PX) PX
theorem made_grow {K : PySem.W.Frag} {T : List (Addr × Str)} {m : List Addr} {H : Hp} {st : Store} {C x dx : Addr} (rel : Rel K T m st H) (hx : H x = none) (hd : H dx = none) (ne : dx ≠ x) :
    Grow m H (m ++ [x]) (upd (upd H dx (.own x)) x (.ins C dx [])) ∧ Rel K T (m ++ [x]) (st ++ [.ins C []]) (upd (upd H dx (.own x)) x (.ins C dx [])) ∧ RV K (m ++ [x]) (upd (upd H dx (.own x)) x (.ins C dx [])) (.ref x) (.oh st.length) := by
  have g1 : Grow m H m (upd H dx (.own x)) := Grow.new hd
  have r1 : Rel K T m st (upd H dx (.own x)) := rel.new hd
  have hx1 : upd H dx (.own x) x = none := by rw [upd_ne (Ne.symm ne)]; exact hx
  have g2 : Grow m (upd H dx (.own x)) (m ++ [x]) (upd (upd H dx (.own x)) x (.ins C dx [])) := Grow.hand r1 hx1
  have r2 : Rel K T (m ++ [x]) (st ++ [.ins C []]) (upd (upd H dx (.own x)) x (.ins C dx [])) := r1.handO hx1 ⟨dx, [], upd_same, rfl, .nil⟩
  exact ⟨g1.trans g2, r2, .oh (get_hand rel) ⟨_, upd_same, rfl⟩⟩
section
variable {X : Cx} {T : List (Addr × Str)} {W : WX} {p pos : Pos} {e : Expr} {es : List Expr} {x : Str} {g : SemA} {k j : Nat} {ps : List Str} {dv : List PV} {S : SpecF}
theorem run_mk {f C : Addr} {fd : FuncData} {dvs : List V} {ds : List Value} {pins : List (Addr × Obj)} {σ : L2.St} {H : Hp} {s : Shared} {Q : VK} {us : List Value} {vs : List V} (M : Mk X.K C f) (F : FnG X.prog X.w X.K T X.mg X.base false k f fd ps S) (hr : Room (k + 1) X.A) (hb : Binds X.K fd ps ds) (hd : Vals dvs ds)
    (tk : Takes X W) (I : Inv X pins σ H s) (r : Vals vs us)
    (h : ∀ x dx, H x = none → H dx = none → dx ≠ x → spOf X.K T S (.ref x :: (vs ++ dvs)) (upd (upd H dx (.own x)) x (.ins C dx [])) (fun v H2 => v = .non ∧ Q (.ref x) H2) (fun c d H' => W c d σ H')) :
    wpAny (model X.prog X.w) X.A (call (.ref C) us) (EP X pins σ Q) X.xe s := by
  have hq := h (s.heap.objs.size + 1) s.heap.objs.size (I.hok.fresh (Nat.le_succ _)) (I.hok.fresh (Nat.le_refl _)) (Nat.ne_of_lt (Nat.lt_succ_self _))
  have I2 := Inv.made (C := C) I
  have r2 : Vals (V.ref (s.heap.objs.size + 1) :: (vs ++ dvs)) (Value.ref (s.heap.objs.size + 1) :: (us ++ ds)) := .cons rfl (r.append hd)
  have hl : (Value.ref (s.heap.objs.size + 1) :: us ++ ds).length = ps.length := by
    obtain ⟨pvs, st, m, P, PX, rv, _, hS, _⟩ := id hq
    have e := rv.len2 r2
    rw [F.len _ _ _ _ hS] at e
    exact e
  refine wpAny_call (make_map (f := f) I.kIn M.makes M.init (beq_iff_eq.mp M.fn) (codeAny_mono (F.run _ X.stack _ _ ⟨Value.ref (s.heap.objs.size + 1) :: us, []⟩ (Value.ref (s.heap.objs.size + 1) :: (us ++ ds)) _ _ _ (hr.make C us []) Gu.no
    (I2.env0.make C us []) (hb _ (Value.ref (s.heap.objs.size + 1) :: us) I2.kIn hl) r2 hq) fun r s' hq' => ?_))
  cases r with
  | error e => exact passAt tk σ pins _ _ e s' I2 hq'
  | ok fl =>
    cases fl with
    | ret u =>
      obtain ⟨v, H', I3, rv, ev, q3⟩ := I2.after hq'
      subst ev
      exact ⟨rv, ⟨V.ref (s.heap.objs.size + 1), H', I3, rfl, q3⟩⟩
    | next => exact False.elim hq'
    | brk => exact False.elim hq'
    | cont => exact False.elim hq'
theorem make_sp {dvs : List V} {σ : L2.St} {m1 : List Addr} {H1 : Hp} {st1 : Store} {P : PK} {PX : XP} {Q : VK} {xs : List V} {vs : List PV} (h5 : ∀ m H, RVs X.K m H dvs dv) (rel1 : Rel X.K T m1 st1 H1) (rv1 : RVs X.K m1 H1 xs vs)
    (hv : S (.oh st1.length :: (vs ++ dv)) (st1 ++ [.ins (ad X.mg x) []]) (fun v st2 => v = .non ∧ P (.oh st1.length) st2) PX) (fin : Fin X.K T m1 H1 P Q) (finx : FinX X.K T m1 H1 PX (fun c d H' => W c d σ H')) :
    ∀ x' dx, H1 x' = none → H1 dx = none → dx ≠ x' → spOf X.K T S (.ref x' :: (xs ++ dvs)) (upd (upd H1 dx (.own x')) x' (.ins (ad X.mg x) dx [])) (fun v H2 => v = .non ∧ Q (.ref x') H2) (fun c d H' => W c d σ H') := by
  intro x' dx hx hdx ne
  obtain ⟨g2, r2, rv⟩ := made_grow (C := ad X.mg x) rel1 hx hdx ne
  refine ⟨_, _, _, _, PX, .cons rv ((rv1.append (h5 m1 H1)).grow rel1 g2), r2, hv, fun v st' hp y m' H' g3 r' ry => ?_, finx.step g2⟩
  obtain ⟨rfl, hp⟩ := hp
  cases ry
  exact ⟨rfl, fin _ st' hp _ m' H' (g2.trans g3) r' (rv.grow r2 g3)⟩
theorem w_make (G : Gi X.prog X.w X.K T X.mg X.base k x ps dv S) (hr : Room j X.A) (hkj : k + 1 ≤ j) (tk : Takes X W) (ha : JA X T W (e :: es) g) (hg : Gl X x := by rfl) (hdb : (x == ("__debug__" : Str)) = false := by decide)
    (he : starEach (e :: es) X.env = (false, eval e X.env) :: starEach es X.env := by rfl) (hpl : (backTo pos (starEach es X.env)).any (·.1) = false := by rfl) : JE X T W (.Call (.Name x p) (e :: es) [] pos) (sMake (ad X.mg x) S dv g) := by
  obtain ⟨f, fd, ds, dvs, h1, M, h3, h4, h5, F⟩ := G.ex
  refine ⟨fun pins s σ H Q I h => ?_⟩
  obtain ⟨ρ, st, m, P, PX, rs, rel, hf, fin, finx⟩ := h
  refine wpAny_Call_Name_kw (ld_glob I hg h1 ?_ hdb)
  have hq : tA X.K T W g σ H (fun xs H1 => ∀ x' dx, H1 x' = none → H1 dx = none → dx ≠ x' → spOf X.K T S (.ref x' :: (xs ++ dvs)) (upd (upd H1 dx (.own x')) x' (.ins (ad X.mg x) dx [])) (fun v H2 => v = .non ∧ Q (.ref x') H2) (fun c d H' => W c d σ H')) :=
    ⟨ρ, st, m, _, PX, rs, rel, hf, fun vs st1 hv xs m1 H1 g1 rel1 rv1 => make_sp (X := X) (W := W) (x := x) (S := S) (dv := dv) (σ := σ) h5 rel1 rv1 hv (fin.step g1) (finx.step g1), finx⟩
  exact PySem.W.callWith_K (h₀ := X.base) I.ok.mod.kin M.kp (thn (ha.run pos pins s σ H _ I hq) fun us s1 ⟨vs, H1, I1, r, q⟩ => ⟨I1.kIn, run_mk M F (hr.mono hkj) h3 h4 tk I1 r q⟩) he hpl
end
end Sm
set_option Elab.async false
set_option linter.all false
set_option maxRecDepth 100000
set_option maxHeartbeats 1000000
namespace Sm
open PySem PySem.Spec PyProof.Rows L2
def noX : XP := fun _ _ => False
section
variable {X : Cx} {T : List (Addr × Str)} {k : Nat} {f : Addr} {fd : FuncData} {ps : List Str} {S : SpecF} {pins : List (Addr × Obj)} {σ : L2.St} {H : Hp} {s : Shared} {Q : VK} {us : List Value} {vs : List V}
theorem run_q {A : Around} {E' : Value → Shared → Prop} (F : FnG X.prog X.w X.K T X.mg X.base false k f fd ps S) (hr : Room k A) (e0 : Env0 X.prog X.w X.K X.mg X.base A X.stack s H) (hb : Binds X.K fd ps []) (I : Inv X pins σ H s) (r : Vals vs us)
    (h : spOf X.K T S vs H Q (fun _ _ _ => False)) : wpAny (model X.prog X.w) A (call (.ref f) us) (EP X pins σ Q) E' s := by
  have hl : us.length = ps.length := by
    obtain ⟨pvs, st, m, P, PX, rv, _, hS, _⟩ := id h
    rw [rv.len2 r, F.len _ _ _ _ hS]
  have b := hb s us I.kIn (by rw [List.append_nil]; exact hl)
  rw [List.append_nil] at b
  refine wpAny_call (codeAny_mono (F.run A X.stack s H ⟨us, []⟩ us vs Q _ hr Gu.no e0 b r h) fun res s' hq => ?_)
  cases res with
  | error ex =>
    obtain ⟨_, _, _, _, _, _, _, _, _, _, _, _, bad⟩ := hq
    exact bad.elim
  | ok fl =>
    cases fl with
    | ret u => exact I.after hq
    | _ => exact False.elim hq
end
structure Gp (P : Program) (w : World) (K : PySem.W.Frag) (T : List (Addr × Str)) (mg : Str → Option Value) (base : Heap) (k : Nat) (C : Addr) (x : Str) (S : SpecF) : Prop where
  ex : ∃ (p f : Addr) (fd : FuncData), PropOf K C x p f ∧ Binds K fd ["self"] [] ∧ FnG P w K T mg base false k f fd ["self"] S
def sProp (C : Addr) (S : SpecF) (g : Sem) : Sem := fun ρ st P PX => g ρ st (fun x st1 => match insAt C st1 x with
  | some _ => S [x] st1 P noX
  | none => False) PX
section
variable {X : Cx} {T : List (Addr × Str)} {W : WX} {pos : Pos} {e : Expr} {f : Str} {g : Sem} {C : Addr} {k j : Nat} {S : SpecF}
theorem w_prop (c : Cls X.K C) (G : Gp X.prog X.w X.K T X.mg X.base k C f S) (hr : Room j X.A) (hkj : k + 1 ≤ j) (he : JE X T W e g) (hab : attributeBase e f X.env (eval e X.env) = eval e X.env := by rfl) : JE X T W (.Attribute e f pos) (sProp C S g) := by
  obtain ⟨p, fa, fd, hp, hb, F⟩ := G.ex
  refine ⟨fun pins s σ H Q I h => ?_⟩
  obtain ⟨ρ, st, m, P, PX, rs, rel, hf, fin, finx⟩ := h
  have h1 : tE X.K T W g σ H (fun xv H1 => ∃ a dx kvs, xv = .ref a ∧ H1 a = some (.ins C dx kvs) ∧ spOf X.K T S [xv] H1 Q (fun _ _ _ => False)) := by
    refine ⟨ρ, st, m, _, PX, rs, rel, hf, fun v st1 hv xv m1 H1 g1 rel1 rv1 => ?_, finx⟩
    dsimp only at hv
    split at hv
    · rename_i fs hfs
      obtain ⟨n', a, dx, kvs, rfl, rfl, hm', hst', ha', hk, hr'⟩ := insAt_ok rel1 rv1 hfs
      exact ⟨a, dx, kvs, rfl, ha', _, st1, m1, P, noX, .cons rv1 .nil, rel1, hv, fin.step g1, fun _ _ p => p.elim⟩
    · exact hv.elim
  refine attr_of hab (thn (he.run pins s σ H _ I h1) fun u s1 ⟨x, H1, I1, rx, a, dx, fs, ex, ea, q⟩ => ?_)
  subst ex
  obtain rfl : u = Value.ref a := rx
  obtain ⟨mA, O, _, _, _, _⟩ := ins_get I1.hok ea
  obtain ⟨od, J, _⟩ := O.look
  obtain ⟨rest, hrec⟩ := hp.rec_
  have I2 := I1.tok (s1.toks + 1)
  have hc : (PySem.W.clsIn X.K C).isSome = true := by
    obtain ⟨cd, hc, _⟩ := PySem.W.any_some c.hd
    rw [hc]
    rfl
  refine PySem.W.get_bind I1.kIn J (PySem.W.plainGet_of (c.get f)).1 (PySem.W.findObj_data hc hp.at_ hp.get hp.tak) (PySem.W.plainGet_of (c.get f)).2 (wpAny_call (PySem.W.prop_get (s := { s1 with toks := s1.toks + 1 }) I1.kIn hrec ?_))
  have hb2 := hb { s1 with toks := s1.toks + 1 } [.ref a] I2.kIn rfl
  refine codeAny_mono (F.run X.A.in1 X.stack { s1 with toks := s1.toks + 1 } H1 ⟨[.ref a], []⟩ [.ref a] [.ref a] Q _ (hr.mono hkj).in1 Gu.no I2.env0.in1 hb2 (.cons rfl .nil) q) fun r s' hq => ?_
  cases r with
  | error er =>
    obtain ⟨_, _, _, _, _, _, _, _, _, _, _, _, bad⟩ := hq
    exact bad.elim
  | ok fl =>
    cases fl with
    | ret u =>
      obtain ⟨v, H', I3, rv, q3⟩ := I2.after hq
      show wpAny _ _ (handedOut u) _ _ _
      rw [PySem.W.handedOut_of (handed_of rv)]
      exact wpAny_pure ⟨v, H', I3, rv, q3⟩
    | next => exact False.elim hq
    | brk => exact False.elim hq
    | cont => exact False.elim hq
end
abbrev JK (X : Cx) (T : List (Addr × Str)) (W : WX) (kws : List Keyword) (g : SemA) : Prop := L2.PK X kws (tA X.K T W g)
section
variable {X : Cx} {T : List (Addr × Str)} {W : WX} {e : Expr} {kws : List Keyword} {f : Sem} {g : SemA} {nm : Option Str} {kpos : Pos}
theorem PK.imp {t t' : TA} (h : L2.PK X kws t) (i : ∀ σ H Q, t' σ H Q → t σ H Q) : L2.PK X kws t' := ⟨fun pos pins s σ H Q I q => h.run pos pins s σ H Q I (i σ H Q q)⟩
theorem k_nil : JK X T W [] sNil := PK.imp pk_nil fun σ H Q h => by
  obtain ⟨ρ, st, m, P, PX, rs, rel, hf, fin, finx⟩ := h
  exact fin [] st hf [] m H Grow.refl rel .nil
theorem k_cons (ha : JE X T W e f) (hb : JK X T W kws g) : JK X T W (⟨nm, e, kpos⟩ :: kws) (sCons f g) := PK.imp (pk_cons ha hb) fun σ H Q h => by
  obtain ⟨ρ, st, m, P, PX, rs, rel, hf, fin, finx⟩ := h
  exact ⟨ρ, st, m, _, PX, rs, rel, hf, fun v st1 hg x m1 H1 g1 rel1 rv1 => ⟨ρ, st1, m1, _, PX, rs.grow rel g1, rel1, hg, fun vs st2 hv xs m2 H2 g2 rel2 rv2 => fin _ st2 hv _ m2 H2 (g1.trans g2) rel2 (.cons (rv1.grow rel1 g2) rv2), finx.step g1⟩, finx⟩
end
/-- how a call with keywords is bound, of values told -/
structure Kb (K : PySem.W.Frag) (fd : FuncData) (ps : List Str) (n : Nat) (ks : List Str) (gP : List PV → List PV → List PV) : Prop where
  ex : ∃ (g : List Value → List Value → List Value) (gV : List V → List V → List V), KBn K fd ps n ks g gV ∧ ∀ (m : List Addr) (H : Hp) (vs zs : List V) (pvs pzs : List PV), RVs K m H vs pvs → RVs K m H zs pzs → RVs K m H (gV vs zs) (gP pvs pzs)
structure Gmk (P : Program) (w : World) (K : PySem.W.Frag) (T : List (Addr × Str)) (mg : Str → Option Value) (base : Heap) (k : Nat) (C : Addr) (x : Str) (ps : List Str) (n : Nat) (ks : List Str) (gP : List PV → List PV → List PV) (S : SpecF) : Prop where
  ex : ∃ (f : Addr) (fd : FuncData), Meth K C x f ∧ Kb K fd ps (n + 1) ks gP ∧ FnG P w K T mg base false k f fd ps S
structure Gik (P : Program) (w : World) (K : PySem.W.Frag) (T : List (Addr × Str)) (mg : Str → Option Value) (base : Heap) (k : Nat) (x : Str) (ps : List Str) (n : Nat) (ks : List Str) (gP : List PV → List PV → List PV) (S : SpecF) : Prop where
  ex : ∃ (f : Addr) (fd : FuncData), mg x = some (.ref (ad mg x)) ∧ Mk K (ad mg x) f ∧ Kb K fd ps (n + 1) ks gP ∧ FnG P w K T mg base false k f fd ps S
def sMethK (C : Addr) (x : Str) (n m : Nat) (S : SpecF) (gP : List PV → List PV → List PV) (fo : Sem) (g gk : SemA) : Sem := fun ρ st P PX => fo ρ st (fun o st1 => match insAt C st1 o with
  | some fs => fs.lookup x = none ∧ g ρ st1 (fun vs st2 => gk ρ st2 (fun zs st3 => vs.length = n ∧ zs.length = m ∧ S (gP (o :: vs) zs) st3 P PX) PX) PX
  | none => False) PX
def sMakeK (C : Addr) (n m : Nat) (S : SpecF) (gP : List PV → List PV → List PV) (g gk : SemA) : Sem := fun ρ st P PX => g ρ st (fun vs st1 => gk ρ st1 (fun zs st2 => vs.length = n ∧ zs.length = m ∧ S (gP (.oh st2.length :: vs) zs) (st2 ++ [.ins C []]) (fun v st3 => v = .non ∧ P (.oh st2.length) st3) PX) PX) PX
section
variable {X : Cx} {T : List (Addr × Str)} {W : WX} {p pos apos : Pos} {o e : Expr} {es : List Expr} {kws : List Keyword} {x : Str} {fo : Sem} {g gk : SemA} {C : Addr} {k j n : Nat} {ps ks : List Str} {gP : List PV → List PV → List PV} {S : SpecF}
theorem run_k {f : Addr} {fd : FuncData} {gv : List Value → List Value → List Value} {gV : List V → List V → List V} {pins : List (Addr × Obj)} {σ : L2.St} {H : Hp} {s : Shared} {Q : VK} {us ws : List Value} {vs zs : List V} (F : FnG X.prog X.w X.K T X.mg X.base false k f fd ps S) (hr : Room k X.A) (hb : KBn X.K fd ps n ks gv gV)
    (tk : Takes X W) (I : Inv X pins σ H s) (r : Vals vs us) (rz : Vals zs ws) (l1 : vs.length = n) (l2 : zs.length = ks.length) (h : spOf X.K T S (gV vs zs) H Q (fun c d H' => W c d σ H')) : wpAny (model X.prog X.w) X.A (call (.ref f) us (ks.zip ws)) (EP X pins σ Q) X.xe s := by
  refine wpAny_call (codeAny_mono (F.run X.A X.stack s H ⟨us, ks.zip ws⟩ (gv us ws) (gV vs zs) Q _ hr Gu.no I.env0 (hb.to s us ws I.kIn (r.length.symm.trans l1) (rz.length.symm.trans l2)) (hb.rel r rz) h) fun res s' hq => ?_)
  cases res with
  | error ex => exact passAt tk σ pins H s ex s' I hq
  | ok fl =>
    cases fl with
    | ret u => exact I.after hq
    | _ => exact False.elim hq
theorem w_methK {pl : PySem.Sem Bool} (c : Cls X.K C) (G : Gmk X.prog X.w X.K T X.mg X.base k C x ps n ks gP S) (hr : Room j X.A) (hkj : k ≤ j) (tk : Takes X W) (ho : JE X T W o fo) (ha : JA X T W (e :: es) g) (hkw : JK X T W kws gk)
    (hall : (backToKw pos (keywordEach kws X.env)).all (·.1.isSome) = true := by rfl) (hks : (backToKw pos (keywordEach kws X.env)).filterMap (·.1) = ks := by rfl)
    (he : starEach (e :: es) X.env = (false, eval e X.env) :: starEach es X.env := by rfl) (hpl : ((backTo pos (starEach (e :: es) X.env)).any (·.1) || (backToKw pos (keywordEach kws X.env)).any (·.1.isNone)) = false := by rfl)
    (ht : eval (.Call (.Attribute o x apos) (e :: es) kws pos) X.env = (do
      let ov ← eval o X.env
      standAt apos.atName
      let (f, first) ← holding [ov] (getMethod ov x pl)
      callWith pos f first (backTo pos (starEach (e :: es) X.env)) (backToKw pos (keywordEach kws X.env))) := by rfl) :
    JE X T W (.Call (.Attribute o x apos) (e :: es) kws pos) (sMethK C x n ks.length S gP fo g gk) := by
  obtain ⟨f, fd, hm, Kb0, F⟩ := G.ex
  obtain ⟨gv, gV, hb, hg⟩ := Kb0.ex
  refine ⟨fun pins s σ H Q I h => ?_⟩
  obtain ⟨ρ, st, m, P, PX, rs, rel, hf, fin, finx⟩ := h
  have h1 : tE X.K T W fo σ H (fun xv H1 => ∃ a dx kvs, xv = .ref a ∧ H1 a = some (.ins C dx kvs) ∧ kvs.lookup x = none ∧ tA X.K T W g σ H1 (fun xs H2 => tA X.K T W gk σ H2 (fun zs H3 => xs.length = n ∧ zs.length = ks.length ∧ spOf X.K T S (gV (xv :: xs) zs) H3 Q (fun c d H' => W c d σ H')))) := by
    refine ⟨ρ, st, m, _, PX, rs, rel, hf, fun v st1 hv xv m1 H1 g1 rel1 rv1 => ?_, finx⟩
    dsimp only at hv
    split at hv
    · rename_i fs hfs
      obtain ⟨n', a, dx, kvs, rfl, rfl, hm', hst', ha', hk, hr'⟩ := insAt_ok rel1 rv1 hfs
      refine ⟨a, dx, kvs, rfl, ha', look_none hk hv.1, ρ, st1, m1, _, PX, rs.grow rel g1, rel1, hv.2, fun vs st2 hv2 xs m2 H2 g2 rel2 rv2 => ?_, finx.step g1⟩
      refine ⟨ρ, st2, m2, _, PX, (rs.grow rel g1).grow rel1 g2, rel2, hv2, fun pzs st3 hv3 zs m3 H3 g3 rel3 rv3 => ?_, (finx.step g1).step g2⟩
      obtain ⟨l1, l2, hv3⟩ := hv3
      exact ⟨rv2.length.trans l1, rv3.length.trans l2, _, st3, m3, P, PX, hg m3 H3 _ _ _ _ (.cons ((rv1.grow rel1 g2).grow rel2 g3) (rv2.grow rel2 g3)) rv3, rel3, hv3, ((fin.step g1).step g2).step g3, ((finx.step g1).step g2).step g3⟩
    · exact hv.elim
  refine PySem.W.methodCall_KW (pl := pl) (thn (ho.run pins s σ H _ I h1) fun u s1 ⟨xv, H1, I1, rx, a, dx, kvs, ex, ea, l, q⟩ => ?_) ht
  subst ex
  obtain rfl : u = Value.ref a := rx
  refine getmeth_ok I1 ea c hm l ?_
  refine PySem.W.callWith_KW (first := [.ref a]) (h₀ := X.base) I.ok.mod.kin hm.kp hall (thn (ha.run pos pins s1 σ H1 _ I1 q) fun us s2 ⟨vs, H2, I2, r, q2⟩ => ?_) hpl he
  refine thn (hkw.run pos pins s2 σ H2 _ I2 q2) fun ws s3 ⟨zs, H3, I3, rz, l1, l2, q3⟩ => ⟨I3.kIn, ?_⟩
  rw [hks]
  exact run_k (us := .ref a :: us) (vs := .ref a :: vs) F (hr.mono hkj) hb tk I3 (.cons rfl r) rz (by rw [List.length_cons, l1]) l2 q3
theorem w_methK0 {pl : PySem.Sem Bool} (c : Cls X.K C) (G : Gmk X.prog X.w X.K T X.mg X.base k C x ps 0 ks gP S) (hr : Room j X.A) (hkj : k ≤ j) (tk : Takes X W) (ho : JE X T W o fo) (hkw : JK X T W kws gk)
    (hall : (backToKw pos (keywordEach kws X.env)).all (·.1.isSome) = true := by rfl) (hks : (backToKw pos (keywordEach kws X.env)).filterMap (·.1) = ks := by rfl)
    (hpl : ((backTo pos (starEach [] X.env)).any (·.1) || (backToKw pos (keywordEach kws X.env)).any (·.1.isNone)) = false := by rfl)
    (ht : eval (.Call (.Attribute o x apos) [] kws pos) X.env = (do
      let ov ← eval o X.env
      standAt apos.atName
      let (f, first) ← holding [ov] (getMethod ov x pl)
      callWith pos f first (backTo pos (starEach [] X.env)) (backToKw pos (keywordEach kws X.env))) := by rfl) :
    JE X T W (.Call (.Attribute o x apos) [] kws pos) (sMethK C x 0 ks.length S gP fo sNil gk) := by
  obtain ⟨f, fd, hm, Kb0, F⟩ := G.ex
  obtain ⟨gv, gV, hb, hg⟩ := Kb0.ex
  refine ⟨fun pins s σ H Q I h => ?_⟩
  obtain ⟨ρ, st, m, P, PX, rs, rel, hf, fin, finx⟩ := h
  have h1 : tE X.K T W fo σ H (fun xv H1 => ∃ a dx kvs, xv = .ref a ∧ H1 a = some (.ins C dx kvs) ∧ kvs.lookup x = none ∧ tA X.K T W gk σ H1 (fun zs H3 => zs.length = ks.length ∧ spOf X.K T S (gV [xv] zs) H3 Q (fun c d H' => W c d σ H'))) := by
    refine ⟨ρ, st, m, _, PX, rs, rel, hf, fun v st1 hv xv m1 H1 g1 rel1 rv1 => ?_, finx⟩
    dsimp only at hv
    split at hv
    · rename_i fs hfs
      obtain ⟨n', a, dx, kvs, rfl, rfl, hm', hst', ha', hk, hr'⟩ := insAt_ok rel1 rv1 hfs
      refine ⟨a, dx, kvs, rfl, ha', look_none hk hv.1, ρ, st1, m1, _, PX, rs.grow rel g1, rel1, hv.2, fun pzs st3 hv3 zs m3 H3 g3 rel3 rv3 => ?_, finx.step g1⟩
      obtain ⟨_, l2, hv3⟩ := hv3
      exact ⟨rv3.length.trans l2, _, st3, m3, P, PX, hg m3 H3 _ _ _ _ (.cons (rv1.grow rel1 g3) .nil) rv3, rel3, hv3, (fin.step g1).step g3, (finx.step g1).step g3⟩
    · exact hv.elim
  refine PySem.W.methodCall_KW (pl := pl) (thn (ho.run pins s σ H _ I h1) fun u s1 ⟨xv, H1, I1, rx, a, dx, kvs, ex, ea, l, q⟩ => ?_) ht
  subst ex
  obtain rfl : u = Value.ref a := rx
  refine getmeth_ok I1 ea c hm l ?_
  refine PySem.W.callWith_KW0 (first := [.ref a]) (h₀ := X.base) I.ok.mod.kin hm.kp hall ?_ hpl
  refine thn (hkw.run pos pins s1 σ H1 _ I1 q) fun ws s3 ⟨zs, H3, I3, rz, l2, q3⟩ => ⟨I3.kIn, ?_⟩
  rw [hks]
  exact run_k (us := [.ref a]) (vs := [.ref a]) F (hr.mono hkj) hb tk I3 (.cons rfl .nil) rz rfl l2 q3
theorem w_makeK0 (G : Gik X.prog X.w X.K T X.mg X.base k x ps 0 ks gP S) (hr : Room j X.A) (hkj : k + 1 ≤ j) (tk : Takes X W) (hkw : JK X T W kws gk) (hg : Gl X x := by rfl)
    (hall : (backToKw pos (keywordEach kws X.env)).all (·.1.isSome) = true := by rfl) (hks : (backToKw pos (keywordEach kws X.env)).filterMap (·.1) = ks := by rfl) (hdb : (x == ("__debug__" : Str)) = false := by decide)
    (hpl : ((backTo pos (starEach [] X.env)).any (·.1) || (backToKw pos (keywordEach kws X.env)).any (·.1.isNone)) = false := by rfl) :
    JE X T W (.Call (.Name x p) [] kws pos) (sMakeK (ad X.mg x) 0 ks.length S gP sNil gk) := by
  obtain ⟨f, fd, h1, M, Kb0, F⟩ := G.ex
  obtain ⟨gv, gV, hb, hgP⟩ := Kb0.ex
  refine ⟨fun pins s σ H Q I h => ?_⟩
  obtain ⟨ρ, st, m, P, PX, rs, rel, hf, fin, finx⟩ := h
  have hq : tA X.K T W gk σ H (fun zs H1 => zs.length = ks.length ∧ ∀ x' dx, H1 x' = none → H1 dx = none → dx ≠ x' → spOf X.K T S (gV [.ref x'] zs) (upd (upd H1 dx (.own x')) x' (.ins (ad X.mg x) dx [])) (fun v H2 => v = .non ∧ Q (.ref x') H2) (fun c d H' => W c d σ H')) := by
    refine ⟨ρ, st, m, _, PX, rs, rel, hf, fun pzs st1 hv zs m1 H1 g1 rel1 rv1 => ?_, finx⟩
    obtain ⟨_, l2, hv⟩ := hv
    refine ⟨rv1.length.trans l2, fun x' dx hx hdx ne => ?_⟩
    obtain ⟨g2, r2, rv⟩ := made_grow (C := ad X.mg x) rel1 hx hdx ne
    refine ⟨_, _, _, _, PX, hgP _ _ _ _ _ _ (.cons rv .nil) (rv1.grow rel1 g2), r2, hv, fun v st' hp y m' H' g3 r' ry => ?_, (finx.step g1).step g2⟩
    obtain ⟨rfl, hp⟩ := hp
    cases ry
    exact ⟨rfl, fin _ st' hp _ m' H' ((g1.trans g2).trans g3) r' (rv.grow r2 g3)⟩
  refine wpAny_Call_Name_kw (ld_glob I hg h1 ?_ hdb)
  refine PySem.W.callWith_KW0 (h₀ := X.base) I.ok.mod.kin M.kp hall ?_ hpl
  refine thn (hkw.run pos pins s σ H _ I hq) fun ws s2 ⟨zs, H2, I2, rz, l2, q2⟩ => ⟨I2.kIn, ?_⟩
  rw [hks]
  have hq2 := q2 (s2.heap.objs.size + 1) s2.heap.objs.size (I2.hok.fresh (Nat.le_succ _)) (I2.hok.fresh (Nat.le_refl _)) (Nat.ne_of_lt (Nat.lt_succ_self _))
  have I3 := Inv.made (C := ad X.mg x) I2
  have hr1 : Vals [V.ref (s2.heap.objs.size + 1)] [Value.ref (s2.heap.objs.size + 1)] := .cons rfl .nil
  refine wpAny_call (make_map (f := f) I2.kIn M.makes M.init (beq_iff_eq.mp M.fn) (codeAny_mono (F.run _ X.stack _ _ ⟨[Value.ref (s2.heap.objs.size + 1)], ks.zip ws⟩ (gv [Value.ref (s2.heap.objs.size + 1)] ws) _ _ _ ((hr.mono hkj).make (ad X.mg x) [] (ks.zip ws)) Gu.no
    (I3.env0.make (ad X.mg x) [] (ks.zip ws)) (hb.to _ _ ws I3.kIn rfl (rz.length.symm.trans l2)) (hb.rel hr1 rz) hq2) fun r s' hq' => ?_))
  cases r with
  | error e => exact passAt tk σ pins _ _ e s' I3 hq'
  | ok fl =>
    cases fl with
    | ret u =>
      obtain ⟨v, H', I4, rv, ev, q4⟩ := I3.after hq'
      subst ev
      exact ⟨rv, ⟨V.ref (s2.heap.objs.size + 1), H', I4, rfl, q4⟩⟩
    | next => exact False.elim hq'
    | brk => exact False.elim hq'
    | cont => exact False.elim hq'
end
end Sm
set_option Elab.async false
set_option linter.all false
set_option maxRecDepth 100000
set_option maxHeartbeats 1000000
namespace Sm
open PySem PySem.Spec PyProof.Rows L2
/-- a special method's promise -/
structure Gs (P : Program) (w : World) (K : PySem.W.Frag) (T : List (Addr × Str)) (mg : Str → Option Value) (base : Heap) (k : Nat) (C : Addr) (x : Str) (ps : List Str) (S : SpecF) : Prop where
  ex : ∃ (f : Addr) (fd : FuncData), PySem.W.findIn K (.ref C) x = some (some (.ref f)) ∧ PySem.W.isFn K (.ref f) = true ∧ Binds K fd ps [] ∧ FnG P w K T mg base false k f fd ps S
theorem ins_at {X : Cx} {pins : List (Addr × Obj)} {σ : L2.St} {H : Hp} {s : Shared} {a C dx : Addr} {kvs : List (Str × V)} (I : Inv X pins σ H s) (ea : H a = some (.ins C dx kvs)) : ∃ od, PySem.W.InstAt s.heap a (PySem.W.instObj C dx) C (some od) := by
  obtain ⟨mA, O, _, _, _, _⟩ := ins_get I.hok ea
  obtain ⟨od, J, _⟩ := O.look
  exact ⟨od, J⟩
section
variable {prog : Program} {w : World} {A : Around} {E : Value → Shared → Prop} {s : Shared} {K : PySem.W.Frag} {x C f : Addr} {ox : Obj} {od : Option Obj} {v : Value}
open PySem.W Builtin in
theorem len_X {Q : Value → Shared → Prop} (X : K.In s.heap) (I : InstAt s.heap x ox C od) (hs : findIn K (.ref C) "__len__" = some (some (.ref f))) (hf : isFn K (.ref f) = true)
    (h : wpAny (model prog w) A.in1 (call (.ref f) [.ref x]) (PySem.W.LenBack Q) E s) : wpAny (model prog w) A (call (.builtin "len") [.ref x]) Q E s := by
  refine Calls.call_function_entry kind_len plain_len entry_len (args_len1 _) ?_
  unfold Builtin.«len»
  refine wpAny_bind (m := oneArg "len" _) (wpAny_pure ?_)
  refine wpAny_bind (m := callSpecial? (.ref x) (Str.ofString "__len__")) (special_fn X I hs (beq_iff_eq.mp hf) (wpAny_mono h (fun r s' hr => ?_) fun _ _ y => y))
  cases r <;> first | exact hr.elim | skip
  rename_i n u
  obtain ⟨⟨h0, h1⟩, hq⟩ := hr
  refine wpAny_bind (wpAny_holding (wpAny_pure ?_))
  refine wpAny_bind (wpAny_letGo ?_)
  show wpAny _ _ (if n < 0 then _ else _) _ _ _
  rw [if_neg (by omega)]
  show wpAny _ _ (if n ≥ 2 ^ 63 then _ else _) _ _ _
  rw [if_neg (by omega)]
  exact wpAny_bind (wpAny_mkInt (wpAny_pure ⟨_, rfl, hq⟩))
open PySem.W Builtin in
theorem contains_X {Q : Bool → Shared → Prop} (X : K.In s.heap) (I : InstAt s.heap x ox C od) (hs : findIn K (.ref C) "__contains__" = some (some (.ref f))) (hf : isFn K (.ref f) = true)
    (h : wpAny (model prog w) A (call (.ref f) [.ref x, v]) (fun r s' => wpAny (model prog w) A (truthy r) Q E s') E s) : wpAny (model prog w) A (contains (.ref x) v) Q E s := by
  unfold contains
  refine wpAny_holding (wpAny_bind (wpAny_bind (I.type.here ((looks_findIn X hs).here ?_))))
  rw [if_neg (by simp)]
  exact wpAny_bind (unlessNone_K X I hs hf h)
end
def oLenO (C : Addr) (S : SpecF) : SCall := fun vs st P => match vs with
  | [v] => match insAt C st v with
    | some _ => S [v] st (fun r st' => match r with
      | .int n => 0 ≤ n ∧ n < 2 ^ 63 ∧ P (.int n) st'
      | _ => False) noX
    | none => False
  | _ => False
def oStrO (C : Addr) (S : SpecF) : SCall := fun vs st P => match vs with
  | [v] => match insAt C st v with
    | some _ => S [v] st (fun r st' => match r with
      | .str z => P (.str z) st'
      | _ => False) noX
    | none => False
  | _ => False
def oInO (neg : Bool) (C : Addr) (S : SpecF) : SOp := fun x y st P => match insAt C st y with
  | some _ => S [y, x] st (fun r st' => match r with
    | .bl b => P (.bl (if neg then !b else b)) st'
    | _ => False) noX
  | none => False
/-- what such a call asks, of values -/
def rOwn (sp : Sp) (C : Addr) (R : V → (V → Hp → Prop) → V → Hp → Prop) : List V → Hp → VK → Prop := fun xs H Q => ∃ (a dx : Addr) (kvs : List (Str × V)), xs = [.ref a] ∧ H a = some (.ins C dx kvs) ∧ sp [.ref a] H (R (.ref a) Q) (fun _ _ _ => False)
def isLen (_ : V) (Q : VK) : VK := fun v H => ∃ n : Int, v = .int n ∧ 0 ≤ n ∧ n < 2 ^ 63 ∧ Q (.int n) H
def isTxt (_ : V) (Q : VK) : VK := fun v H => ∃ z : Str, v = .str z ∧ Q (.str z) H
def rInO (neg : Bool) (sp : Sp) (C : Addr) : R2 := fun x y H Q => ∃ (a dx : Addr) (kvs : List (Str × V)), y = .ref a ∧ H a = some (.ins C dx kvs) ∧ sp [.ref a, x] H (fun v H' => ∃ b, v = .bl b ∧ Q (.bl (if neg then !b else b)) H') (fun _ _ _ => False)
section
variable {X : Cx} {T : List (Addr × Str)} {W : WX} {p pos : Pos} {a b e : Expr} {es : List Expr} {g : SemA} {fa fb : Sem} {C : Addr} {k j : Nat} {S : SpecF} {neg : Bool}
theorem call_lenO (G : Gs X.prog X.w X.K T X.mg X.base k C "__len__" ["self"] S) (hr : Room j X.A) (hkj : k + 1 ≤ j) : CallR X (.builtin "len") (rOwn (spOf X.K T S) C isLen) := by
  obtain ⟨f, fd, hs, hf, hb, F⟩ := G.ex
  intro pins s σ H xs us Q I r h
  obtain ⟨a, dx, kvs, rfl, ea, q⟩ := h
  obtain ⟨u, rfl, rx⟩ := vals1 r
  obtain rfl : u = Value.ref a := rx
  obtain ⟨od, J⟩ := ins_at I ea
  refine len_X I.kIn J hs hf (wpAny_mono (run_q F (hr.mono hkj).in1 I.env0.in1 hb I (show Vals [V.ref a] [Value.ref a] from .cons rfl .nil) q) (fun r s' hq => ?_) fun _ _ z => z)
  obtain ⟨v, H', I', rv, n, rfl, h0, h1, q'⟩ := hq
  obtain ⟨t, rfl⟩ := rv
  exact ⟨⟨h0, h1⟩, .int n, H', I'.tok _, ⟨_, rfl⟩, q'⟩
theorem call_strO (G : Gs X.prog X.w X.K T X.mg X.base k C "__str__" ["self"] S) (hr : Room j X.A) (hkj : k + 2 ≤ j) : CallR X (.type "str") (rOwn (spOf X.K T S) C isTxt) := by
  obtain ⟨f, fd, hs, hf, hb, F⟩ := G.ex
  intro pins s σ H xs us Q I r h
  obtain ⟨a, dx, kvs, rfl, ea, q⟩ := h
  obtain ⟨u, rfl, rx⟩ := vals1 r
  obtain rfl : u = Value.ref a := rx
  obtain ⟨od, J⟩ := ins_at I ea
  have hr2 := (hr.mono hkj).in1.in1
  refine PySem.W.kso_call hr2.units0 I.kIn J hs hf (wpAny_mono (run_q F hr2 I.env0.in1.in1 hb I (show Vals [V.ref a] [Value.ref a] from .cons rfl .nil) q) (fun r s' hq => ?_) fun _ _ z => z)
  obtain ⟨v, H', I', rv, z, rfl, q'⟩ := hq
  obtain ⟨t, rfl⟩ := rv
  exact ⟨.str z, H', I', ⟨_, rfl⟩, q'⟩
theorem op_inO (G : Gs X.prog X.w X.K T X.mg X.base k C "__contains__" ["self", "value"] S) (hr : Room j X.A) (hkj : k ≤ j) : OpR X (compareOp .In) (rInO false (spOf X.K T S) C) := by
  obtain ⟨f, fd, hs, hf, hb, F⟩ := G.ex
  intro pins s σ H x y v u Q I rx ry h
  obtain ⟨a, dx, kvs, rfl, ea, q⟩ := h
  obtain rfl : u = Value.ref a := ry
  obtain ⟨od, J⟩ := ins_at I ea
  refine wpAny_bind (contains_X I.kIn J hs hf (wpAny_mono (run_q F (hr.mono hkj) I.env0 hb I (show Vals [V.ref a, x] [Value.ref a, v] from .cons rfl (.cons rx .nil)) q) (fun r s' hq => ?_) fun _ _ z => z))
  obtain ⟨v', H', I', rv, b, rfl, q'⟩ := hq
  cases rv
  exact wpAny_pure (wpAny_pure ⟨.bl b, H', I', rfl, q'⟩)
theorem op_niO (G : Gs X.prog X.w X.K T X.mg X.base k C "__contains__" ["self", "value"] S) (hr : Room j X.A) (hkj : k ≤ j) : OpR X (compareOp .NotIn) (rInO true (spOf X.K T S) C) := by
  obtain ⟨f, fd, hs, hf, hb, F⟩ := G.ex
  intro pins s σ H x y v u Q I rx ry h
  obtain ⟨a, dx, kvs, rfl, ea, q⟩ := h
  obtain rfl : u = Value.ref a := ry
  obtain ⟨od, J⟩ := ins_at I ea
  refine wpAny_bind (contains_X I.kIn J hs hf (wpAny_mono (run_q F (hr.mono hkj) I.env0 hb I (show Vals [V.ref a, x] [Value.ref a, v] from .cons rfl (.cons rx .nil)) q) (fun r s' hq => ?_) fun _ _ z => z))
  obtain ⟨v', H', I', rv, b, rfl, q'⟩ := hq
  cases rv
  exact wpAny_pure (wpAny_pure ⟨.bl (!b), H', I', rfl, q'⟩)
theorem os_inO {K : PySem.W.Frag} : OpS K T (rInO neg (spOf K T S) C) (oInO neg C S) := fun x y v w m H st P Q rel rx ry h fin => by
  unfold oInO at h
  split at h
  · rename_i fs hfs
    obtain ⟨n', a, dx, kvs, rfl, rfl, hm', hst', ha', hk, hr'⟩ := insAt_ok rel ry hfs
    refine ⟨a, dx, kvs, rfl, ha', _, st, m, _, noX, .cons ry (.cons rx .nil), rel, h, fun v' st' hv y' m' H' g r' rv => ?_, fun _ _ p => p.elim⟩
    cases rv <;> first | exact hv.elim | skip
    exact ⟨_, rfl, fin _ st' hv _ m' H' g r' (.bl _)⟩
  · exact h.elim
theorem cs_lenO {K : PySem.W.Frag} : CallS K T (rOwn (spOf K T S) C isLen) (oLenO C S) := fun xs vs m H st P Q rel rv h fin => by
  unfold oLenO at h
  split at h
  · split at h
    · rename_i hfs
      obtain ⟨x, rfl, r⟩ := rv.one
      obtain ⟨n', a, dx, kvs, rfl, rfl, hm', hst', ha', hk, hr'⟩ := insAt_ok rel r hfs
      refine ⟨a, dx, kvs, rfl, ha', _, st, m, _, noX, .cons r .nil, rel, h, fun v' st' hv y' m' H' g r' rv => ?_, fun _ _ p => p.elim⟩
      cases rv <;> first | exact hv.elim | skip
      exact ⟨_, rfl, hv.1, hv.2.1, fin _ st' hv.2.2 _ m' H' g r' (.int _)⟩
    · exact h.elim
  · exact h.elim
theorem cs_strO {K : PySem.W.Frag} : CallS K T (rOwn (spOf K T S) C isTxt) (oStrO C S) := fun xs vs m H st P Q rel rv h fin => by
  unfold oStrO at h
  split at h
  · split at h
    · rename_i hfs
      obtain ⟨x, rfl, r⟩ := rv.one
      obtain ⟨n', a, dx, kvs, rfl, rfl, hm', hst', ha', hk, hr'⟩ := insAt_ok rel r hfs
      refine ⟨a, dx, kvs, rfl, ha', _, st, m, _, noX, .cons r .nil, rel, h, fun v' st' hv y' m' H' g r' rv => ?_, fun _ _ p => p.elim⟩
      cases rv <;> first | exact hv.elim | skip
      exact ⟨_, rfl, fin _ st' hv _ m' H' g r' (.str _)⟩
    · exact h.elim
  · exact h.elim
theorem c_lenO (G : Gs X.prog X.w X.K T X.mg X.base k C "__len__" ["self"] S) (hr : Room j X.A) (hkj : k + 1 ≤ j) (hm : X.mg "len" = none) (ha : JA X T W (e :: es) g) (hg : Gl X "len" := by rfl)
    (he : starEach (e :: es) X.env = (false, eval e X.env) :: starEach es X.env := by rfl) (hpl : (backTo pos (starEach es X.env)).any (·.1) = false := by rfl) : JE X T W (.Call (.Name "len" p) (e :: es) [] pos) (sCB (oLenO C S) g) :=
  w_callB (call_lenO G hr hkj) cs_lenO hg hm (by decide +kernel) ha (by decide) (by decide) he hpl
theorem c_strO (G : Gs X.prog X.w X.K T X.mg X.base k C "__str__" ["self"] S) (hr : Room j X.A) (hkj : k + 2 ≤ j) (hm : X.mg "str" = none) (ha : JA X T W (e :: es) g) (hg : Gl X "str" := by rfl)
    (he : starEach (e :: es) X.env = (false, eval e X.env) :: starEach es X.env := by rfl) (hpl : (backTo pos (starEach es X.env)).any (·.1) = false := by rfl) : JE X T W (.Call (.Name "str" p) (e :: es) [] pos) (sCB (oStrO C S) g) :=
  w_callTy (call_strO G hr hkj) cs_strO hg hm (by decide +kernel) ha (by decide) (by decide) he hpl
end
end Sm
set_option Elab.async false
set_option linter.all false
set_option maxRecDepth 100000
set_option maxHeartbeats 1000000
namespace Sm
open PySem PySem.Spec PyProof.Rows L2
def dctAt (st : Store) : PV → Option DL
  | .dh n => match st[n]? with
    | some (.dct l) => some l
    | some (.dck _ _ l) => some l
    | _ => none
  | _ => none
theorem dctAt_ok {K : PySem.W.Frag} {T : List (Addr × Str)} {m : List Addr} {H : Hp} {st : Store} {x : V} {v : PV} {l : DL} (rel : Rel K T m st H) (r : RV K m H x v) (h : dctAt st v = some l) :
    ∃ (n : Nat) (a : Addr) (kvs : List (Key × V)), v = .dh n ∧ x = .ref a ∧ m[n]? = some a ∧ Rd H a (.dK kvs) ∧ KR K m H kvs l := by
  unfold dctAt at h
  split at h
  · rename_i n
    split at h
    · rename_i l' hst
      cases h
      cases r with
      | @dh a _ hn _ =>
        obtain ⟨kvs, e1, e2⟩ := rel.ob _ _ _ hn hst
        exact ⟨n, a, kvs, rfl, rfl, hn, .inl e1, e2⟩
    · rename_i o kvs l' hst
      cases h
      cases r with
      | @dh a _ hn _ =>
        obtain ⟨e1, e2⟩ := rel.ob _ _ _ hn hst
        exact ⟨n, a, kvs, rfl, rfl, hn, .inr ⟨o, e1⟩, e2⟩
    · cases h
  · cases h
/-- d[k] -/
def oDIx : SOp := fun x y st P => match dctAt st x, keyP y with
  | some l, some k => match getP l k with
    | some v => P v st
    | none => False
  | _, _ => False
def oDIn (neg : Bool) : SOp := fun y x st P => match dctAt st x, keyP y with
  | some l, some k => P (.bl (if neg then !(getP l k).isSome else (getP l k).isSome)) st
  | _, _ => False
theorem os_dix {K : PySem.W.Frag} {T : List (Addr × Str)} : OpS K T rDGet oDIx := fun x y v w m H st P Q rel rx ry h fin => by
  unfold oDIx at h
  split at h
  · rename_i l k hl hk
    split at h
    · rename_i u hu
      obtain ⟨n, a, kvs, rfl, rfl, hn, hd, hr⟩ := dctAt_ok rel rx hl
      rcases hr.find k with ⟨e, _⟩ | ⟨v', x', e1, e2, e3⟩
      · rw [hu] at e; cases e
      · rw [hu] at e1
        cases e1
        exact ⟨a, x', rfl, .inl ⟨kvs, k, hd, keyP_eq ry hk, e2.symm⟩, fin _ st h _ m H Grow.refl rel e3⟩
    · exact h.elim
  · exact h.elim
theorem os_din {K : PySem.W.Frag} {T : List (Addr × Str)} {neg : Bool} : OpS K T (rDIn neg) (oDIn neg) := fun y x w v m H st P Q rel ry rx h fin => by
  unfold oDIn at h
  split at h
  · rename_i l k hl hk
    obtain ⟨n, a, kvs, rfl, rfl, hn, hd, hr⟩ := dctAt_ok rel rx hl
    refine ⟨a, valV kvs k, rfl, .inl ⟨kvs, k, hd, keyP_eq ry hk, rfl⟩, ?_⟩
    have e : (valV kvs k).isSome = (getP l k).isSome := by
      rcases hr.find k with ⟨e1, e2⟩ | ⟨v', x', e1, e2, e3⟩
      · rw [e1, e2]; rfl
      · rw [e1, e2]; rfl
    rw [e]
    exact fin _ st h _ m H Grow.refl rel (.bl _)
  · exact h.elim
/-- len(d) -/
def oDLen : SCall := fun vs st P => match vs with
  | [v] => match dctAt st v with
    | some l => P (.int l.length) st
    | none => False
  | _ => False
theorem call_dlen {X : Cx} : CallR X (.builtin "len") (fun xs H Q => ∃ (a : Addr) (kvs : List (Key × V)), xs = [.ref a] ∧ Rd H a (.dK kvs) ∧ Q (.int kvs.length) H) := by
  intro pins s σ H xs us Q I r h
  obtain ⟨a, kvs, rfl, hd, q⟩ := h
  obtain ⟨u, rfl, rx⟩ := vals1 r
  obtain rfl : u = Value.ref a := rx
  exact d_len I hd fun t s' I' => ⟨.int _, H, I', ⟨t, rfl⟩, q⟩
theorem cs_dlen {K : PySem.W.Frag} {T : List (Addr × Str)} : CallS K T (fun xs H Q => ∃ (a : Addr) (kvs : List (Key × V)), xs = [.ref a] ∧ Rd H a (.dK kvs) ∧ Q (.int kvs.length) H) oDLen := fun xs vs m H st P Q rel rv h fin => by
  unfold oDLen at h
  split at h
  · split at h
    · rename_i l hl
      obtain ⟨x, rfl, r⟩ := rv.one
      obtain ⟨n, a, kvs, rfl, rfl, hn, hd, hr⟩ := dctAt_ok rel r hl
      exact ⟨a, kvs, rfl, hd, fin _ st h _ m H Grow.refl rel (by rw [hr.length]; exact .int _)⟩
    · exact h.elim
  · exact h.elim
/-- dict(d) -/
def oDCopy : SCall := fun vs st P => match vs with
  | [v] => match dctAt st v with
    | some l => P (.dh st.length) (st ++ [.dct l])
    | none => False
  | _ => False
def rDCopy : List V → Hp → VK → Prop := fun xs H Q => ∃ (a : Addr) (kvs : List (Key × V)), xs = [.ref a] ∧ Rd H a (.dK kvs) ∧ ∀ p, H p = none → Q (.ref p) (upd H p (.dK kvs))
theorem call_dcopy {X : Cx} : CallR X (.type "dict") rDCopy := by
  intro pins s σ H xs us Q I r h
  obtain ⟨a, kvs, rfl, hd, q⟩ := h
  obtain ⟨u, rfl, rx⟩ := vals1 r
  obtain rfl : u = Value.ref a := rx
  exact d_copyOf I hd fun p s' hp I' => ⟨.ref p, _, I', rfl, q p hp⟩
theorem cs_dcopy {K : PySem.W.Frag} {T : List (Addr × Str)} : CallS K T rDCopy oDCopy := fun xs vs m H st P Q rel rv h fin => by
  unfold oDCopy at h
  split at h
  · split at h
    · rename_i l hl
      obtain ⟨x, rfl, r⟩ := rv.one
      obtain ⟨n, a, kvs, rfl, rfl, hn, hd, hr⟩ := dctAt_ok rel r hl
      refine ⟨a, kvs, rfl, hd, fun p hp => ?_⟩
      have g : Grow m H (m ++ [p]) (upd H p (.dK kvs)) := Grow.hand rel hp
      exact fin _ _ h _ _ _ g (rel.handO hp ⟨kvs, upd_same, hr.1, hr.2.grow rel g⟩) (.dh (get_hand rel) ⟨_, upd_same, rfl⟩)
    · exact h.elim
  · exact h.elim
/-- sorted(d), the keys texts -/
def strKs : DL → Option (List Str)
  | [] => some []
  | (.inr x, _) :: r => (strKs r).map (x :: ·)
  | _ => none
theorem strKs_eq : ∀ {l : DL} {ks : List Str}, strKs l = some ks → l.map (·.1) = ks.map Sum.inr
  | [], ks, h => by cases h; rfl
  | (.inr x, v) :: r, ks, h => by
    simp only [strKs] at h
    cases e : strKs r with
    | none => rw [e] at h; cases h
    | some ys =>
      rw [e] at h
      cases h
      simp [strKs_eq e]
  | (.inl i, v) :: r, ks, h => by simp [strKs] at h
def oDSort : SCall := fun vs st P => match vs with
  | [v] => match dctAt st v with
    | some l => match strKs l with
      | some ks => ks.length < 64 ∧ ∀ ys : List Str, ys.Perm ks → sortedS ys = true → P (.lst (ys.map .str)) st
      | none => False
    | none => False
  | _ => False
theorem cs_dsort {K : PySem.W.Frag} {T : List (Addr × Str)} : CallS K T (fun xs H Q => ∃ (a : Addr) (kvs : List (Key × V)) (ks : List Str), xs = [.ref a] ∧ Rd H a (.dK kvs) ∧ kvs.map (·.1) = ks.map Sum.inr ∧ ks.length < 64 ∧
    ∀ ys p, ys.Perm ks → sortedS ys = true → H p = none → Q (.ref p) (upd H p (.lst (ys.map V.str)))) oDSort := fun xs vs m H st P Q rel rv h fin => by
  unfold oDSort at h
  split at h
  · split at h
    · rename_i l hl
      split at h
      · rename_i ks hks
        obtain ⟨x, rfl, r⟩ := rv.one
        obtain ⟨n, a, kvs, rfl, rfl, hn, hd, hr⟩ := dctAt_ok rel r hl
        refine ⟨a, kvs, ks, rfl, hd, hr.1.trans (strKs_eq hks), h.1, fun ys p hp hs hpn => ?_⟩
        exact fin _ st (h.2 ys hp hs) _ m _ (Grow.new hpn) (rel.new hpn) (.lst (.inl ⟨.inl upd_same, rel.mem_ne hpn⟩) (strs_rvs ys))
      · exact h.elim
    · exact h.elim
  · exact h.elim
section
variable {X : Cx} {T : List (Addr × Str)} {W : WX} {pos p : Pos} {a b e : Expr} {es : List Expr} {f g' : Sem} {g : SemA}
theorem w_dix (hu : X.A.units + 1 < cLine) (ha : JE X T W a f) (hb : JE X T W b g') (hpl : NoSl b := by exact fun _ _ => rfl) : JE X T W (.Subscript a b pos) (sOp oDIx f g') := PE.imp (pe_dget hu ha hb hpl) fun _ _ _ h => tOp_of os_dix h
theorem w_din (hu : X.A.units + 1 < cLine) (ha : JE X T W a f) (hb : JE X T W b g') (hm : behindInMarks .In b = false := by rfl) : JE X T W (.Compare a [.In] [b] pos) (sOp (oDIn false) f g') := w_cmp (op_din hu) os_din ha hb hm
theorem c_dlen (hm : X.mg "len" = none) (ha : JA X T W (e :: es) g) (hg : Gl X "len" := by rfl) (he : starEach (e :: es) X.env = (false, eval e X.env) :: starEach es X.env := by rfl) (hpl : (backTo pos (starEach es X.env)).any (·.1) = false := by rfl) :
    JE X T W (.Call (.Name "len" p) (e :: es) [] pos) (sCB oDLen g) := w_callB call_dlen cs_dlen hg hm (by decide +kernel) ha (by decide) (by decide) he hpl
theorem c_dcopy (hm : X.mg "dict" = none) (ha : JA X T W (e :: es) g) (hg : Gl X "dict" := by rfl) (he : starEach (e :: es) X.env = (false, eval e X.env) :: starEach es X.env := by rfl) (hpl : (backTo pos (starEach es X.env)).any (·.1) = false := by rfl) :
    JE X T W (.Call (.Name "dict" p) (e :: es) [] pos) (sCB oDCopy g) := w_callTy call_dcopy cs_dcopy hg hm (by decide +kernel) ha (by decide) (by decide) he hpl
theorem c_dsort (hc : X.calm = true) (hm : X.mg "sorted" = none) (ha : JA X T W (e :: es) g) (hg : Gl X "sorted" := by rfl) (he : starEach (e :: es) X.env = (false, eval e X.env) :: starEach es X.env := by rfl) (hpl : (backTo pos (starEach es X.env)).any (·.1) = false := by rfl) :
    JE X T W (.Call (.Name "sorted" p) (e :: es) [] pos) (sCB oDSort g) := w_callB (call_sortedD hc) cs_dsort hg hm (by decide +kernel) ha (by decide) (by decide) he hpl
/-- {} -/
def sDNew : Sem := fun _ st P _ => P (.dh st.length) (st ++ [.dct []])
theorem w_dnew : JE X T W (.Dict [] [] pos) sDNew := PE.imp pe_dnewK fun σ H Q h => by
  obtain ⟨ρ, st, m, P, PX, rs, rel, hf, fin, finx⟩ := h
  intro p hp
  have g : Grow m H (m ++ [p]) (upd H p (.dK [])) := Grow.hand rel hp
  exact fin _ _ hf _ _ _ g (rel.handO hp ⟨[], upd_same, rfl, .nil⟩) (.dh (get_hand rel) ⟨_, upd_same, rfl⟩)
/-- d.pop(k), there -/
def dropP (l : DL) (k : Key) : DL := l.filter fun kv => decide (kv.1 ≠ k)
theorem KR.drop {K : PySem.W.Frag} {m : List Addr} {H : Hp} : ∀ {l : DL} {kvs : List (Key × V)} (k : Key), KR K m H kvs l → KR K m H (dropK kvs k) (dropP l k)
  | [], kvs, k, h => by rw [h.nilr]; exact .nil
  | p :: l, kvs, k, h => by
    obtain ⟨y, r, rfl, h1, h2⟩ := h.inv
    have ih := h2.drop k
    unfold dropK dropP at ih ⊢
    by_cases hk : p.1 = k
    · rw [List.filter_cons_of_neg (by simp [hk]), List.filter_cons_of_neg (by simp [hk])]
      exact ih
    · rw [List.filter_cons_of_pos (by simp [hk]), List.filter_cons_of_pos (by simp [hk])]
      exact .cons h1 ih
def sDPop (fd fk : Sem) : Sem := fun ρ st P PX => fd ρ st (fun d st1 => (dctAt st1 d).isSome = true ∧ fk ρ st1 (fun y st2 => match d, keyP y with
  | .dh n, some k => match st2[n]? with
    | some (.dct l) => match getP l k with
      | some v => P v (st2.set n (.dct (dropP l k)))
      | none => False
    | _ => False
  | _, _ => False) PX) PX
theorem w_dpop {o : Expr} {apos cpos : Pos} {fo fe : Sem} (ho : JE X T W o fo) (he : JE X T W e fe) (m1 : M1 X o "pop" apos e cpos := by exact ⟨rfl, rfl, rfl, rfl⟩) : JE X T W (.Call (.Attribute o "pop" apos) [e] [] cpos) (sDPop fo fe) := PE.imp (pe_dpop1 ho he m1) fun σ H Q h => by
  obtain ⟨ρ, st, m, P, PX, rs, rel, hf, fin, finx⟩ := h
  refine ⟨ρ, st, m, _, PX, rs, rel, hf, fun v st1 hv x m1 H1 g1 rel1 rv1 => ?_, finx⟩
  obtain ⟨hd, hv⟩ := hv
  obtain ⟨l0, hl0⟩ := Option.isSome_iff_exists.mp hd
  obtain ⟨n, a, kvs, rfl, rfl, hn, hrd, hr⟩ := dctAt_ok rel1 rv1 hl0
  refine ⟨a, rfl, .inl ⟨kvs, hrd⟩, ρ, st1, m1, _, PX, rs.grow rel g1, rel1, hv, fun y st2 hy yv m2 H2 g2 rel2 rv2 => ?_, finx.step g1⟩
  dsimp only at hy
  cases hk : keyP y with
  | none =>
    rw [hk] at hy
    exact hy.elim
  | some k =>
    rw [hk] at hy
    dsimp only at hy
    split at hy
    · rename_i l hl
      split at hy
      · rename_i u hu
        have hn2 := get_grow g2 hn
        obtain ⟨kvs2, e2, hr2⟩ := rel2.atD hn2 hl
        rcases hr2.find k with ⟨z, _⟩ | ⟨v', x', z1, z2, z3⟩
        · rw [hu] at z; cases z
        · rw [hu] at z1
          cases z1
          have g3 : Grow m2 H2 m2 (L2.upd H2 a (.dK (dropK kvs2 k))) := Grow.upd hn2 e2
          have hr3 := (hr2.drop k).grow rel2 g3
          exact ⟨kvs2, k, x', e2, keyP_eq rv2 hk, z2, fin _ _ hy _ m2 _ ((g1.trans g2).trans g3) (rel2.updO hn2 e2 rfl (by intro _ z; cases z) ⟨_, upd_same, hr3.1, hr3.2⟩) (z3.grow rel2 g3)⟩
      · exact hy.elim
    · exact hy.elim
end
end Sm
set_option Elab.async false
set_option linter.all false
set_option maxRecDepth 100000
set_option maxHeartbeats 1000000
namespace Sm
open PySem PySem.Spec PyProof.Rows L2
section
variable {K : PySem.W.Frag} {T : List (Addr × Str)} {m : List Addr} {H : Hp} {st : Store} {n : Nat} {a : Addr} {l : DL} {o : Obj} {kvs : List (Key × V)}
theorem Rel.lock (r : Rel K T m st H) (h : m[n]? = some a) (hl : st[n]? = some (.dct l)) : ∃ kvs, H a = some (.dK kvs) ∧ ∀ o, Grow m H m (L2.upd H a (.frz o (.dK kvs))) ∧ Rel K T m (st.set n (.dck o kvs l)) (L2.upd H a (.frz o (.dK kvs))) := by
  obtain ⟨kvs, e, q⟩ := r.atD h hl
  refine ⟨kvs, e, fun o => ?_⟩
  have g : Grow m H m (L2.upd H a (.frz o (.dK kvs))) := Grow.upd h e
  exact ⟨g, r.updO h e rfl (by intro _ z; cases z) ⟨upd_same, q.1, q.2.grow r g⟩⟩
theorem Rel.unlock (r : Rel K T m st H) (h : m[n]? = some a) (hl : st[n]? = some (.dck o kvs l)) : H a = some (.frz o (.dK kvs)) ∧ Grow m H m (L2.upd H a (.dK kvs)) ∧ Rel K T m (st.set n (.dct l)) (L2.upd H a (.dK kvs)) := by
  obtain ⟨e, q1, q2⟩ := r.ob n a _ h hl
  have g : Grow m H m (L2.upd H a (.dK kvs)) := Grow.upd h e
  exact ⟨e, g, r.updO h e rfl (by intro _ z; cases z) ⟨kvs, upd_same, q1, q2.grow r g⟩⟩
end
def sLockE (f : Sem) : Sem := fun ρ st P _ => ∃ n l, st[n]? = some (.dct l) ∧ ∀ o kvs, f ρ (st.set n (.dck o kvs l)) (fun v st1 => st1[n]? = some (.dck o kvs l) ∧ P v (st1.set n (.dct l))) noX
theorem at_of {K : PySem.W.Frag} {T : List (Addr × Str)} {m : List Addr} {H : Hp} {st : Store} {n : Nat} {o : Ob} (r : Rel K T m st H) (h : st[n]? = some o) : ∃ a, m[n]? = some a := by
  have hl : n < st.length := (List.getElem?_eq_some_iff.mp h).1
  exact ⟨m[n]'(by rw [r.len]; exact hl), List.getElem?_eq_getElem _⟩
section
variable {X : Cx} {T : List (Addr × Str)} {W : WX} {t : SemS} {f : Sem}
theorem w_lock {e : Expr} (h : JE X T W e f) : JE X T W e (sLockE f) := PE.imp (pe_lock h) fun σ H Q h => by
  obtain ⟨ρ, st, m, P, PX, rs, rel, ⟨n, l, hst, hq⟩, fin, finx⟩ := h
  obtain ⟨a, hn⟩ := at_of rel hst
  obtain ⟨kvs, ea, hk⟩ := rel.lock hn hst
  refine ⟨a, .dK kvs, ea, True.intro, fun od => ?_⟩
  obtain ⟨g, rel2⟩ := hk od
  refine ⟨ρ, _, m, _, noX, rs.grow rel g, rel2, hq od kvs, fun v st1 p x m1 H1 g1 r1 s1 => ?_, fun _ _ p => p.elim⟩
  obtain ⟨e, g2, r2⟩ := r1.unlock (get_grow g1 hn) p.1
  exact ⟨e, fin _ _ p.2 _ m1 _ ((g.trans g1).trans g2) r2 (s1.grow r1 g2)⟩
end
def keyV : Key → PV
  | .inl i => .int i
  | .inr x => .str x
theorem keyV_rel {K : PySem.W.Frag} {m : List Addr} {H : Hp} (k : Key) : RV K m H (kV k) (keyV k) := by
  cases k
  · exact .int _
  · exact .str _
def sIKeys (f : Sem) : SemI := fun ρ st P PX => f ρ st (fun v st1 => match v with
  | .dh n => match st1[n]? with
    | some (.dck o kvs l) => P (fun s => s[n]? = some (.dck o kvs l)) (l.map fun kv => keyV kv.1) st1
    | _ => False
  | _ => False) PX
section
variable {X : Cx} {T : List (Addr × Str)} {W : WX} {f : Sem}
theorem i_keys {tg e : Expr} (he : JE X T W e f) : JI X T W tg e (sIKeys f) := PI.imp (pi_keys he) fun σ H R h => by
  obtain ⟨ρ, st, m, P, PX, rs, rel, hf, fin, finx⟩ := h
  refine ⟨ρ, st, m, _, PX, rs, rel, hf, fun v st1 hv x m1 H1 g1 rel1 rv1 => ?_, finx⟩
  dsimp only at hv
  split at hv
  · rename_i n
    split at hv
    · rename_i o kvs l hl
      cases rv1 with
      | @dh a _ hn _ =>
        obtain ⟨e1, hk, _⟩ := rel1.ob n a _ hn hl
        refine ⟨a, o, rfl, .inl ⟨kvs, e1, fin _ _ _ hv m1 H1 _ g1 rel1 fun m2 H2 st2 g2 rel2 hc => ?_⟩⟩
        obtain ⟨e2, _, _⟩ := rel2.ob n a _ (get_grow g2 hn) hc
        have hlen : kvs.length = l.length := by
          have := congrArg List.length hk
          simpa using this
        refine ⟨fun i v hi => ?_, ⟨e2, by rw [List.length_map, hlen]; exact Nat.le_refl _⟩⟩
        have hi2 : i < l.length := by
          have := (List.getElem?_eq_some_iff.mp hi).1
          simpa using this
        refine ⟨⟨e2, by omega⟩, fun y H' hy => ?_⟩
        obtain ⟨rfl, k, v', h1, rfl⟩ := hy
        refine ⟨Grow.refl, rel2, ?_⟩
        have e3 : (kvs.map (·.1))[i]? = some k := by rw [List.getElem?_map, h1]; rfl
        rw [hk, List.getElem?_map] at e3
        rw [List.getElem?_map] at hi
        cases hz : l[i]? with
        | none => rw [hz] at e3; cases e3
        | some p =>
          rw [hz] at e3 hi
          cases e3
          cases hi
          exact keyV_rel _
    · exact hv.elim
  · exact hv.elim
end
def compD (C : Store → Prop) (n : Nat) (g : SemG) (c : SemT) (fk fv : Sem) (P : PK) : List PV → Env → Store → Prop
  | [], _, st => C st ∧ P (.dh n) st
  | x :: r, ρ, st => C st ∧ g x ρ st fun ρ1 st1 => c ρ1 st1 (fun b st2 => match b with
      | true => fk ρ1 st2 (fun y st3 => fv ρ1 st3 (fun z st4 => match keyP y, st4[n]? with
        | some k, some (.dct acc) => acc.length < 100000 ∧ compD C n g c fk fv P r ρ (st4.set n (.dct (putP acc k z)))
        | _, _ => False) (fun _ _ => False)) (fun _ _ => False)
      | false => compD C n g c fk fv P r ρ st2) (fun _ _ => False)
theorem compD_C {C : Store → Prop} {n : Nat} {g : SemG} {c : SemT} {fk fv : Sem} {P : PK} {l : List PV} {ρ : Env} {st : Store} (h : compD C n g c fk fv P l ρ st) : C st := by
  cases l <;> exact h.1
def sDcI (fi : SemI) (g : SemG) (vs : List Nat) (c : SemT) (fk fv : Sem) : Sem := fun ρ st P PX => fi ρ st (fun C l st1 => compD C st1.length g c fk fv P l (wipeE ρ vs) (st1 ++ [.dct []])) PX
section
variable {X : Cx} {T : List (Addr × Str)} {W : WX} {kx vx tg iter : Expr} {ifs : List Expr} {scope : Scope} {own : List (Str × Nat)} {pos : Pos} {fi : SemI} {g : SemG} {fk fv : Sem} {c : SemT}
theorem dstart {m1 : List Addr} {H1 : Hp} {st1 : Store} {D : Addr} (rel1 : Rel X.K T m1 st1 H1) (hD : H1 D = none) : Grow m1 H1 (m1 ++ [D]) (upd H1 D (.dK [])) ∧ Rel X.K T (m1 ++ [D]) (st1 ++ [.dct []]) (upd H1 D (.dK [])) ∧ (m1 ++ [D])[st1.length]? = some D :=
  ⟨Grow.hand rel1 hD, rel1.handO hD ⟨[], upd_same, rfl, .nil⟩, get_hand rel1⟩
theorem tDc_of {vs : List Nat} {σ : L2.St} {H : Hp} {Q : VK} (h : tE X.K T W (sDcI fi g vs c fk fv) σ H Q) : tDc (tI X.K T W fi) (tGw X.K T g vs) (tT X.K T W0 c) (tE X.K T W0 fk) (tE X.K T W0 fv) vs σ H Q := by
  obtain ⟨ρ, st, m, P, PX, rs, rel, hq, fin, finx⟩ := h
  refine ⟨ρ, st, m, _, PX, rs, rel, hq, fun C l st1 hv m1 H1 J g1 rel1 wk => ?_, finx⟩
  intro D hD
  obtain ⟨gs, rels, hDs⟩ := dstart rel1 hD
  have hw := wipe_rs ((rs.grow rel g1).grow rel1 gs) vs
  refine ⟨fun k mm H2 => mm = l.length - k ∧ k ≤ l.length ∧ ∃ st2 m2, Rel X.K T m2 st2 H2 ∧ Grow (m1 ++ [D]) (upd H1 D (.dK [])) m2 H2 ∧ m2[st1.length]? = some D ∧ compD C st1.length g c fk fv P (l.drop k) (wipeE ρ vs) st2, ⟨_, rfl, Nat.zero_le _, _, _, rels, Grow.refl, hDs, hv⟩, ?_⟩
  rintro k mm H2 ⟨rfl, hk, st2, m2, rel2, g2, hD2, hcl⟩
  obtain ⟨w1, w2⟩ := wk m2 H2 st2 (gs.trans g2) rel2 (compD_C hcl)
  by_cases hlt : k < l.length
  · obtain ⟨w3, w4⟩ := w1 k l[k] (List.getElem?_eq_getElem hlt)
    refine .inr ⟨w3, fun H3 => ∃ st2 m2, Rel X.K T m2 st2 H3 ∧ Grow (m1 ++ [D]) (upd H1 D (.dK [])) m2 H3 ∧ m2[st1.length]? = some D ∧ compD C st1.length g c fk fv P (l.drop (k + 1)) (wipeE ρ vs) st2, fun H3 h3 => ⟨_, by omega, rfl, hlt, h3⟩, fun y H3 hy => ?_⟩
    obtain ⟨gn, reln, ry⟩ := w4 y H3 hy
    rw [List.drop_eq_getElem_cons hlt] at hcl
    refine ⟨_, _, st2, m2, _, ry, (hw.grow rels g2).grow rel2 gn, reln, hcl.2, fun ρ3 st3 h3 σ3 m3 H3' g3 rel3 rs3 hwip => ?_⟩
    refine ⟨by rw [hwip, wipe_wipe fun w h => h], ρ3, st3, m3, _, _, rs3, rel3, h3, fun b st4 hb m4 H4 g4 rel4 => ?_, fun _ _ p => p.elim⟩
    have hD4 := get_grow g4 (get_grow g3 (get_grow gn hD2))
    have g24 := ((g2.trans gn).trans g3).trans g4
    cases b with
    | true =>
      dsimp only
      rw [if_pos rfl]
      refine ⟨_, st4, m4, _, _, rs3.grow rel3 g4, rel4, hb, fun yk st5 hv5 y5 m5 H5 g5 rel5 ry5 => ?_, fun _ _ p => p.elim⟩
      refine ⟨_, st5, m5, _, _, (rs3.grow rel3 g4).grow rel4 g5, rel5, hv5, fun z st6 hv6 y6 m6 H6 g6 rel6 ry6 => ?_, fun _ _ p => p.elim⟩
      dsimp only at hv6
      split at hv6
      · rename_i kk acc hkk hacc
        have hD6 := get_grow g6 (get_grow g5 hD4)
        obtain ⟨kvs, hq6, hr6⟩ := rel6.atD hD6 hacc
        have g7 : Grow m6 H6 m6 (L2.upd H6 D (.dK (putK kvs kk y6))) := Grow.upd hD6 hq6
        have hr7 := (hr6.put kk ry6).grow rel6 g7
        exact ⟨kvs, kk, keyP_eq ry5 hkk, hq6, Nat.lt_of_lt_of_le (by rw [hr6.length]; exact hv6.1) (by decide), _, m6, rel6.updO (l := .dct (putP acc kk z)) hD6 hq6 rfl (by intro _ z; cases z) ⟨_, upd_same, hr7.1, hr7.2⟩, ((g24.trans g5).trans g6).trans g7, hD6, hv6.2⟩
      · exact hv6.elim
    | false =>
      dsimp only
      rw [if_neg Bool.false_ne_true]
      exact ⟨st4, m4, rel4, g24, hD4, hb⟩
  · have e : k = l.length := by omega
    subst e
    refine .inl ⟨w2, ?_⟩
    rw [List.drop_eq_nil_of_le (Nat.le_refl _)] at hcl
    exact fin _ st2 hcl.2 _ m2 H2 ((g1.trans gs).trans g2) rel2 (.dh hD2 (g2.kd _ _ ⟨_, upd_same, rfl⟩))
theorem w_dcI (hc : X.calm = true) (hN : X.N.Nodup) (hi : JI X T W tg iter fi) (ok : BlkOk X.N X.env.scope scope own) (hg : BlkW X T scope tg g (own.map (·.2))) (ht : BlkT X T scope ifs c) (hk : BlkE X T scope kx fk) (hel : BlkE X T scope vx fv)
    (hs : ∀ y, foldedSetIterable iter X.env y = pure y := by intro _; rfl) : JE X T W (.DictComp kx vx [⟨tg, iter, ifs, 0⟩] scope pos) (sDcI fi g (own.map (·.2)) c fk fv) := PE.imp (pe_dc (wi := tI X.K T W fi) (g := tGw X.K T g (own.map (·.2))) (tt := tT X.K T W0 c) (tk := tE X.K T W0 fk) (tv := tE X.K T W0 fv) hc hN hi ok hg ht hk hel hs) fun σ H Q h => tDc_of h
end
end Sm
set_option Elab.async false
set_option linter.all false
set_option maxRecDepth 100000
set_option maxHeartbeats 1000000
namespace Sm
open PySem PySem.Spec PyProof.Rows L2
section
variable {P : Program} {w : World} {K : PySem.W.Frag} {T : List (Addr × Str)} {mg : Str → Option Value} {base : Heap} {x qual : Str} {s : List Stmt × Arguments × Scope} {N ps ks : List Str} {k n : Nat} {C f : Addr} {fd : FuncData} {S : SpecF} {dvs : List V} {kws : List (Str × V)} {gP : List PV → List PV → List PV}
/-- what is asked of a body -/
abbrev Bod (P : Program) (w : World) (K : PySem.W.Frag) (T : List (Addr × Str)) (mg : Str → Option Value) (base : Heap) (N : List Str) (qual : Str) (s : List Stmt × Arguments × Scope) (k : Nat) (f : Addr) (S : SpecF) : Prop :=
  ∀ (cdv : Value) (A : Around) (outer : List PySem.Env) (sh : Shared) (H : Hp) (E : XK), Room k (A.deeper (envOfC qual s.2.2 sh.heap.objs.size f cdv)) →
    ∃ t : SemS, JSs (cxOf (L2.CX P w) P w K mg base N qual s.2.2 f cdv A outer sh H E) T (fun cls d _ H' => E cls d H') s.1 t ∧ ∀ pvs st Q PX, S pvs st Q PX → t (endOf Q PX) (ini N pvs) st
abbrev Bnd (x qual : Str) (s : List Stmt × Arguments × Scope) (ps : List Str) : Prop := ∀ (kV doc pm : Value) (an : Option Addr) (cdv ct : Value) (us : List Value), us.length = ps.length → bindArgs (PySem.W.fnOf x qual s.2.1 s.1 s.2.2 .none kV doc pm an cdv ct) ⟨us, []⟩ = pure (ps.zip us)
theorem fn_body (F : FunD K x qual s.2.1 s.1 s.2.2 dvs kws f fd) (Sc : FnScope N ps s.2.2) (len : ∀ pvs st Q PX, S pvs st Q PX → pvs.length = ps.length) (hb : Bod P w K T mg base N qual s k f S) : FnG P w K T mg base false (k + 1) f fd ps S :=
  g_of F Sc len fun cdv A outer sh H E hr _ => hb cdv A outer sh H E hr
theorem g_meth (M : Meth K C x f) (F : FunD K x qual s.2.1 s.1 s.2.2 [] [] f fd) (Sc : FnScope N ps s.2.2) (bnd : Bnd x qual s ps) (len : ∀ pvs st Q PX, S pvs st Q PX → pvs.length = ps.length) (hb : Bod P w K T mg base N qual s k f S) : Gm P w K T mg base (k + 1) C x ps [] S :=
  ⟨f, fd, [], [], M, F.bindsN bnd, .nil, fun _ _ => .nil, fn_body F Sc len hb⟩
theorem g_spec (hs : PySem.W.findIn K (.ref C) x = some (some (.ref f))) (hf : PySem.W.isFn K (.ref f) = true) (F : FunD K x qual s.2.1 s.1 s.2.2 [] [] f fd) (Sc : FnScope N ps s.2.2) (bnd : Bnd x qual s ps) (len : ∀ pvs st Q PX, S pvs st Q PX → pvs.length = ps.length) (hb : Bod P w K T mg base N qual s k f S) : Gs P w K T mg base (k + 1) C x ps S :=
  ⟨f, fd, hs, hf, F.bindsN bnd, fn_body F Sc len hb⟩
theorem g_prop {p : Addr} (M : PropOf K C x p f) (F : FunD K x qual s.2.1 s.1 s.2.2 [] [] f fd) (Sc : FnScope N ["self"] s.2.2) (bnd : Bnd x qual s ["self"]) (len : ∀ pvs st Q PX, S pvs st Q PX → pvs.length = 1) (hb : Bod P w K T mg base N qual s k f S) : Gp P w K T mg base (k + 1) C x S :=
  ⟨p, f, fd, M, F.bindsN bnd, fn_body F Sc len hb⟩
theorem g_init {y : Str} (hm : mg y = some (.ref (ad mg y))) (M : Mk K (ad mg y) f) (F : FunD K x qual s.2.1 s.1 s.2.2 [] [] f fd) (Sc : FnScope N ps s.2.2) (bnd : Bnd x qual s ps) (len : ∀ pvs st Q PX, S pvs st Q PX → pvs.length = ps.length) (hb : Bod P w K T mg base N qual s k f S) : Gi P w K T mg base (k + 1) y ps [] S :=
  ⟨f, fd, [], [], hm, M, F.bindsN bnd, .nil, fun _ _ => .nil, fn_body F Sc len hb⟩
theorem g_initK {y : Str} (hm : mg y = some (.ref (ad mg y))) (M : Mk K (ad mg y) f) (F : FunD K x qual s.2.1 s.1 s.2.2 dvs kws f fd) (B : Kb K fd ps (n + 1) ks gP) (Sc : FnScope N ps s.2.2) (len : ∀ pvs st Q PX, S pvs st Q PX → pvs.length = ps.length) (hb : Bod P w K T mg base N qual s k f S) : Gik P w K T mg base (k + 1) y ps n ks gP S :=
  ⟨f, fd, hm, M, B, fn_body F Sc len hb⟩
theorem g_methK (M : Meth K C x f) (F : FunD K x qual s.2.1 s.1 s.2.2 dvs kws f fd) (B : Kb K fd ps (n + 1) ks gP) (Sc : FnScope N ps s.2.2) (len : ∀ pvs st Q PX, S pvs st Q PX → pvs.length = ps.length) (hb : Bod P w K T mg base N qual s k f S) : Gmk P w K T mg base (k + 1) C x ps n ks gP S :=
  ⟨f, fd, M, B, fn_body F Sc len hb⟩
/-- def m(self, .., *, ks): all written -/
theorem kb_all (F : FunD K x qual s.2.1 s.1 s.2.2 [] kws f fd) (hk : kws ≠ []) (h : ∀ (D : Addr) (doc pm : Value) (an : Option Addr) (cdv ct : Value) (us ws : List Value), us.length = n → ws.length = ks.length →
      bindArgs (PySem.W.fnOf x qual s.2.1 s.1 s.2.2 .none (.ref D) doc pm an cdv ct) ⟨us, ks.zip ws⟩ = pure (ps.zip (us ++ ws))) : Kb K fd ps n ks fun vs zs => vs ++ zs := by
  obtain ⟨mv, hb⟩ := F.kbinds0 (ps := ps) n ks [] (fun us _ ws => us ++ ws) hk (by simp) (fun r1 _ r3 => r1.append r3) fun D doc pm an cdv ct us mv ws l1 l2 l3 => by
    cases mv with
    | nil => exact h D doc pm an cdv ct us ws l1 l3
    | cons a b => cases l2
  exact ⟨_, _, hb, fun m H vs zs pvs pzs r1 r2 => r1.append r2⟩
/-- .. with positional defaults that stand between -/
theorem kb_dfl (F : FunD K x qual s.2.1 s.1 s.2.2 dvs kws f fd) (dP : List PV) (hP : ∀ m H, RVs K m H dvs dP) (hd : dvs ≠ []) (hk : kws ≠ []) (h : ∀ (T D : Addr) (doc pm : Value) (an : Option Addr) (cdv ct : Value) (us its ws : List Value), us.length = n → its.length = dvs.length → ws.length = ks.length →
      ∃ k, bindArgs (PySem.W.fnOf x qual s.2.1 s.1 s.2.2 (.ref T) (.ref D) doc pm an cdv ct) ⟨us, ks.zip ws⟩ = seqItems? (.ref T) >>= k ∧ KwChain D [] (k (some its.toArray)) (ps.zip (us ++ its ++ ws))) : Kb K fd ps n ks fun vs zs => vs ++ dP ++ zs := by
  obtain ⟨its, mv, hb⟩ := F.kbinds (ps := ps) n ks [] (fun us ds _ ws => us ++ ds ++ ws) hd hk (by simp) (fun r1 r2 _ r3 => (r1.append r2).append r3) fun T D doc pm an cdv ct us its mv ws l1 l2 l3 l4 => by
    cases mv with
    | nil => exact h T D doc pm an cdv ct us its ws l1 l2 l4
    | cons a b => cases l3
  exact ⟨_, _, hb, fun m H vs zs pvs pzs r1 r2 => (r1.append (hP m H)).append r2⟩
/-- .. positional parameters with defaults that are all written -/
theorem kb_pos (F : FunD K x qual s.2.1 s.1 s.2.2 dvs kws f fd) (hd : dvs ≠ []) (hk : kws ≠ []) (h : ∀ (T D : Addr) (doc pm : Value) (an : Option Addr) (cdv ct : Value) (us its ws : List Value), us.length = n → its.length = dvs.length → ws.length = ks.length →
      ∃ k, bindArgs (PySem.W.fnOf x qual s.2.1 s.1 s.2.2 (.ref T) (.ref D) doc pm an cdv ct) ⟨us, ks.zip ws⟩ = seqItems? (.ref T) >>= k ∧ KwChain D [] (k (some its.toArray)) (ps.zip (us ++ ws))) : Kb K fd ps n ks fun vs zs => vs ++ zs := by
  obtain ⟨its, mv, hb⟩ := F.kbinds (ps := ps) n ks [] (fun us _ _ ws => us ++ ws) hd hk (by simp) (fun r1 _ _ r3 => r1.append r3) fun T D doc pm an cdv ct us its mv ws l1 l2 l3 l4 => by
    cases mv with
    | nil => exact h T D doc pm an cdv ct us its ws l1 l2 l4
    | cons a b => cases l3
  exact ⟨_, _, hb, fun m H vs zs pvs pzs r1 r2 => r1.append r2⟩
end
def gtEnd (word : Str) (P : PK) : EndP := ⟨fun _ st => P .non st, P, fun _ _ => False, fun _ _ => False, fun _ _ _ => False⟩
def sGiveT (K : PySem.W.Frag) (l : List SHd) (word : Str) (n : Nat) (f : Sem) : Sem := fun ρ st P PX => f ρ st (fun v st' => P (.tup [.str word, v]) st') (fun e st' => hnd K (gtEnd word P) l e (List.replicate n none) st')
def giveTT (K : PySem.W.Frag) (T : List (Addr × Str)) (l : List SHd) (word : Str) (n : Nat) : (XK → Hp → VK → Prop) → Hp → VK → Prop := fun tl H Q =>
  ∃ Ech : XK, (∀ cls d (σ : L2.St) H', σ.length = n → Ech cls d H' → wGen K W0 ⟨fun _ H' => Q .non H', Q, fun _ _ => False, fun _ _ => False⟩ (hdT K T l) cls d σ H') ∧ tl Ech H fun x H' => [V.str word, x].length ≤ sizeLine ∧ ∀ p, H' p = none → Q (.ref p) (upd H' p (.tup [.str word, x]))
section
variable {X : Cx} {T : List (Addr × Str)} {W : WX}
theorem giveT_gives {Ng : List Str} {x a q word : Str} {sg : Scope} {g : Addr} {cdg : Value} {h₀ : ExceptHandler} {hds : List ExceptHandler} {l : List SHd} {j1 j2 : Nat} {p1 p2 p3 p4 p5 p8 : Pos}
    (h0 : ∀ f : Addr, (L2.start Ng [V.ref f])[0]? = some (some (V.ref f)))
    (hst : ∀ (E : PySem.Env), starEach [.Constant (.str word) j1 p4, .Call (.Name a p1) [] [] p2] E = (false, eval (.Constant (.str word) j1 p4) E) :: starEach [.Call (.Name a p1) [] [] p2] E)
    (hst2 : ∀ (E : PySem.Env), starEach [.Call (.Name a p1) [] [] p2] E = (false, eval (.Call (.Name a p1) [] [] p2) E) :: starEach [] E)
    (hh : ∀ (s : Shared) (H : Hp), JHd (cxOf C8.CX0 X.prog X.w X.K X.mg X.base Ng x sg g cdg X.A X.stack s H C8.E0).nox T (h₀ :: hds) l) :
    LamX.GivesTo X Ng x sg g cdg [.Try [.Return (some (.Tuple [.Constant (.str word) j1 p4, .Call (.Name a p1) [] [] p2] j2 p5)) p3] (h₀ :: hds) [] [] p8] a q (giveTT X.K T l word Ng.length) := by
  intro f c' s H Q tl act hc h
  obtain ⟨Ech, hE, ht⟩ := h
  refine ⟨_, pss_one (ps_tryG (X := (cxOf C8.CX0 X.prog X.w X.K X.mg X.base Ng x sg g cdg X.A X.stack s H C8.E0).nox) (Wout := W0) (tb := fun W' D σ H => ∃ Ech : XK, (∀ cls d (σ' : L2.St) H', σ'.length = Ng.length → Ech cls d H' → W' cls d σ' H') ∧ σ[0]? = some (some (.ref f)) ∧ H c' = some (LamX.CodeO c' q) ∧ tl Ech H fun x H' => [V.str word, x].length ≤ sizeLine ∧ ∀ p, H' p = none → D.rt (.ref p) (upd H' p (.tup [.str word, x])))
    rfl rfl LamX.takes0 (fun W' pn xe tk _ => ?_) (hh s H).hd), ?_⟩
  · refine ⟨fun pins s' σ H' D I h' => ?_⟩
    obtain ⟨Ech, hW, h1, h2, h3⟩ := h'
    have hp := act (fun c d σ H => σ.length = Ng.length → W' c d σ H) pn xe Ech p1 p2 (takes_len tk) (fun cls d σ' H' he hl => hW cls d σ' H' hl he)
    exact (pss_one (ps_ret (pe_tup (pa_cons pe_str (pa_cons hp pa_nil (hst2 _)) (hst _))))).run pins s' σ H' D I ⟨h1, h2, h3⟩
  · exact ⟨Ech, fun cls d σ' H' hl he => hE cls d σ' H' hl he, h0 f, hc, ht⟩
/-- x(lambda: body) -/
theorem w_giveT {Ng : List Str} {x a word : Str} {sg : Scope} {pg : Arguments} {c P : Addr} {k : Nat} {h₀ : ExceptHandler} {hds : List ExceptHandler} {l : List SHd} {j1 j2 : Nat} {p1 p2 p3 p4 p5 p8 p lpos pos : Pos} {params : Arguments} {body : Expr} {scope : Scope} {f : Sem}
    (F : Fc X.K X.mg x ([.Try [.Return (some (.Tuple [.Constant (.str word) j1 p4, .Call (.Name a p1) [] [] p2] j2 p5)) p3] (h₀ :: hds) [] [] p8], pg, sg) []) (Sg : FnScope Ng [a] sg)
    (bnd : ∀ (kV doc pm : Value) (an : Option Addr) (cdv ct : Value) (us : List Value), us.length = 1 → bindArgs (PySem.W.fnOf x x pg [.Try [.Return (some (.Tuple [.Constant (.str word) j1 p4, .Call (.Name a p1) [] [] p2] j2 p5)) p3] (h₀ :: hds) [] [] p8] sg .none kV doc pm an cdv ct) ⟨us, []⟩ = pure ([a].zip us))
    (hN0 : Ng[0]? = some a) (hva : Vis sg a)
    (hst : ∀ (E : PySem.Env), starEach [.Constant (.str word) j1 p4, .Call (.Name a p1) [] [] p2] E = (false, eval (.Constant (.str word) j1 p4) E) :: starEach [.Call (.Name a p1) [] [] p2] E)
    (hst2 : ∀ (E : PySem.Env), starEach [.Call (.Name a p1) [] [] p2] E = (false, eval (.Call (.Name a p1) [] [] p2) E) :: starEach [] E)
    (hh : ∀ (g : Addr) (cdg : Value) (s : Shared) (H : Hp), JHd (cxOf C8.CX0 X.prog X.w X.K X.mg X.base Ng x sg g cdg X.A X.stack s H C8.E0).nox T (h₀ :: hds) l)
    (TB : LamX.TabB X.base X.mg c P) (hcode : X.env.code = .ref c) (hmT : (P, X.env.qual ++ "<lambda>") ∈ T) (hu : ∀ p ∈ T, p.1 = P → p.2 = X.env.qual ++ "<lambda>") (hr : Room (k + 2) X.A) (L : LamX.LamS X.env.scope scope) (hdef : defaultsOf params X.env = ([], []))
    (hbind : ∀ (q : Str) (cl : List (Str × Addr)) (pm cv ctv : Value), bindArgs (PySem.W.kla_fn "<lambda>" q params body scope cl pm cv ctv) ⟨[], []⟩ = pure [])
    (hbody : ∀ (A : Around) (outer : List PySem.Env) (s : Shared) (H : Hp) (E : XK) (fl c' : Addr), Room k (A.deeper (LamX.lamEnv X scope s.heap.objs.size fl c')) → JE (LamX.lamCx X A outer s H E scope fl c') T (fun cls d _ H' => E cls d H') body f)
    (hg : Gl X x := by rfl) (hdb : (x == ("__debug__" : Str)) = false := by decide) (hd : (a == ("__debug__" : Str)) = false := by decide) (hcd : (a == ("__classdict__" : Str)) = false := by decide) :
    JE X T W (.Call (.Name x p) [.Lambda params body scope lpos] [] pos) (sGiveT X.K l word Ng.length f) := by
  obtain ⟨g, fd, F, hm⟩ := F
  have hb : Binds X.K fd [a] [] := F.bindsN fun kV doc pm an cdv ct us hl => bnd kV doc pm an cdv ct us hl
  have kp := F.kp
  obtain ⟨oc, od, dV, kV, doc, pm, an, cdv, ct, osl, rfl, lk, hcd', _, _⟩ := F.ex
  refine PE.imp (LamX.pe_lamcall (T := T) (TT := giveTT X.K T l word Ng.length) (t := fun E => tE X.K T (fun cls d _ H' => E cls d H') f) hg hm kp lk hcd' hb Sg hN0 hva (giveT_gives (fun f => ?_) hst hst2 (hh g cdv)) TB hcode hmT hu hr L hdef hbind (fun A outer s H E fl c' hr => hbody A outer s H E fl c' hr) hdb hd hcd) fun σ H Q hq => ?_
  · have hl : 0 < Ng.length := (List.getElem?_eq_some_iff.mp hN0).1
    unfold L2.start
    rfl
  · obtain ⟨ρ, st, m, PQ, PX, rs, rel, hf, fin, finx⟩ := hq
    refine ⟨rel.tab, fun H1 eN t1 => ?_⟩
    have g1 : Grow m H m H1 := Grow.ext eN
    have rel1 := rel.ext eN t1
    refine ⟨fun cls d H' => ∃ e st' m', hnd X.K (gtEnd word PQ) l e (List.replicate Ng.length none) st' ∧ Grow m H m' H' ∧ Rel X.K T m' st' H' ∧ ExR X.K m' H' cls d e, fun cls d σ' H' hl ⟨e, st', m', h1, h2, h3, h4⟩ => ?_, ρ, st, m, _, _, rs.grow rel g1, rel1, hf, fun v st' hv xv m' H' g2 r2 rx => ?_, fun e st' he cls d m' H' g2 r2 ex => ⟨e, st', m', he, g1.trans g2, r2, ex⟩⟩
    · refine hnd_ok (W := W0) (m := m) (H := H) (D := gtEnd word PQ) (D' := ⟨fun _ H' => Q .non H', Q, fun _ _ => False, fun _ _ => False⟩) ⟨fun ρ1 st1 p1 σ1 m1 H1 g1 r1 _ => fin _ st1 p1 _ m1 H1 g1 r1 .non, fin, fun _ _ p => p.elim, fun _ _ p => p.elim, fun _ _ _ p => p.elim⟩ l e _ st' h1 cls d σ' m' H' h2 h3 (rs_none hl) h4
    · refine ⟨by show 2 ≤ sizeLine; decide, fun p hp => ?_⟩
      exact fin _ st' hv _ m' _ ((g1.trans g2).trans (Grow.new hp)) (r2.new hp) (.tup (SqT.of upd_same) (.cons (.str word) (.cons (rx.grow r2 (Grow.new hp)) .nil)))
end
end Sm
set_option Elab.async false
set_option linter.all false
set_option maxRecDepth 100000
set_option maxHeartbeats 1000000
namespace Sm
open PySem PySem.Spec PyProof.Rows L2
def oS0 (g : List Nat → List Nat → Bool) : SOp := fun x y st P => match x, y with
  | .str a, .str b => P (.bl (g a.cps.toList b.cps.toList)) st
  | _, _ => False
def oLeS : SOp := oS0 fun a b => !decide (b < a)
theorem os_S0 {K : PySem.W.Frag} {T : List (Addr × Str)} {g : List Nat → List Nat → Bool} : OpS K T (fun x y H Q => ∃ i j, x = V.str i ∧ y = V.str j ∧ Q (.bl (g i.cps.toList j.cps.toList)) H) (oS0 g) := fun x y v w m H st P Q rel rx ry h fin => by
  cases rx <;> cases ry <;> first | exact h.elim | skip
  exact ⟨_, _, rfl, rfl, fin _ st h _ m H Grow.refl rel (.bl _)⟩
section
variable {X : Cx} {T : List (Addr × Str)} {W : WX} {pos : Pos} {a b c : Expr} {f g h : Sem}
theorem w_leSS (ha : JE X T W a f) (hb : JE X T W b g) (hc : JE X T W c h) (hm : lastMarks [.LtE, .LtE] [b, c] = false := by with_unfolding_all rfl) : JE X T W (.Compare a [.LtE, .LtE] [b, c] pos) (sChain oLeS oLeS f g h) :=
  w_chain op_le_str op_le_str (os_S0 (g := fun a b => !decide (b < a))) (os_S0 (g := fun a b => !decide (b < a))) ha hb hc hm
end
def sIEnumL (g : SemA) : SemI := fun ρ st P PX => g ρ st (fun vs st1 => match vs with
  | [.lst l] => P any (enumP 0 l) st1
  | [.hd n] => match st1[n]? with
    | some (.lst l) => P (fun s => s[n]? = some (.lst l)) (enumP 0 l) st1
    | _ => False
  | _ => False) PX
theorem wk_e {K : PySem.W.Frag} {T : List (Addr × Str)} {C : Store → Prop} {l : List PV} {m : List Addr} {H : Hp} {a : Addr}
    (h : ∀ m2 H2 st2, Grow m H m2 H2 → Rel K T m2 st2 H2 → C st2 → ∃ xs, SqL K H2 a xs ∧ RVs K m2 H2 xs l) : Wk K T (Ite K a) C (enumP 0 l) m H := fun m2 H2 st2 g2 rel2 hC => by
  obtain ⟨xs, q1, hs⟩ := h m2 H2 st2 g2 rel2 hC
  refine ⟨fun k v hk => ?_, ⟨xs, q1, by rw [hs.length, enumP_len]; exact Nat.le_refl _⟩⟩
  obtain ⟨u, e1, rfl⟩ := enumP_get l 0 k v hk
  obtain ⟨x1, f1, r1⟩ := hs.get e1
  refine ⟨⟨xs, x1, q1, f1⟩, fun x H' hy => ?_⟩
  obtain ⟨Ta, x1', rfl, hn, rfl, h1⟩ := hy
  have z1 := h1 xs q1
  rw [f1] at z1
  cases z1
  rw [Nat.zero_add]
  exact ⟨Grow.new hn, rel2.new hn, .tup (SqT.of upd_same) (.cons (.int _) (.cons (r1.grow rel2 (Grow.new hn)) .nil))⟩
theorem i_enumL {X : Cx} {T : List (Addr × Str)} {W : WX} {e : Expr} {p pos tpos : Pos} {g : SemA} {elts : List Expr} {kk : Nat} (hgl : Gl X "enumerate") (hm : X.mg "enumerate" = none) (ha : JA X T W [e] g) (hs : starEach [e] X.env = [(false, eval e X.env)] := by rfl) :
    JI X T W (.Tuple elts kk tpos) (.Call (.Name "enumerate" p) [e] [] pos) (sIEnumL g) := PI.imp (pi_enum hgl hm ha hs) fun σ H R h => by
  obtain ⟨ρ, st, m, P, PX, rs, rel, hf, fin, finx⟩ := h
  refine ⟨ρ, st, m, _, PX, rs, rel, hf, fun vs st1 hv xs m1 H1 g1 rel1 rv1 => ?_, finx⟩
  dsimp only at hv
  split at hv
  · rename_i l
    obtain ⟨x, rfl, r1⟩ := rv1.one
    cases r1 with
    | lst hq hs => exact ⟨_, _, rfl, hq.sq, fin _ _ st1 hv m1 H1 _ g1 rel1 (wk_e fun m2 H2 st2 g2 rel2 _ => ⟨_, (lsr_grow rel1 g2 hq).sq, hs.grow rel1 g2⟩)⟩
  · rename_i n
    obtain ⟨x, rfl, r1⟩ := rv1.one
    split at hv
    · rename_i l hl
      cases r1 with
      | hd hn _ =>
        obtain ⟨xs, hq, hs⟩ := rel1.ob _ _ _ hn hl
        refine ⟨_, _, rfl, SqL.of hq, fin _ _ st1 hv m1 H1 _ g1 rel1 (wk_e fun m2 H2 st2 g2 rel2 hC => ?_)⟩
        obtain ⟨ys, hq2, hs2⟩ := rel2.ob _ _ _ (get_grow g2 hn) hC
        exact ⟨ys, SqL.of hq2, hs2⟩
    · exact hv.elim
  · exact hv.elim
def oIsStr : SCall := fun vs st P => match vs with
  | [.str _, .ty n] => n = "str" ∧ P (.bl true) st
  | [.int _, .ty n] => n = "str" ∧ P (.bl false) st
  | _ => False
section
variable {X : Cx} {T : List (Addr × Str)} {W : WX} {pos : Pos} {e : Expr}
theorem kit_ss {K : PySem.W.Frag} : PySem.W.kitOne K (.type "str") (.type "str") = some true := by rfl
theorem kit_is {K : PySem.W.Frag} : PySem.W.kitOne K (.type "int") (.type "str") = some false := by rfl
theorem cs_isStr {K : PySem.W.Frag} : CallS K T (rIsi K) oIsStr := fun xs vs m H st P Q rel rv h fin => by
  unfold oIsStr at h
  split at h
  · obtain ⟨rfl, h⟩ := h
    obtain ⟨x, y, rfl, r1, r2⟩ := rv.two
    cases r1
    cases r2
    exact ⟨_, _, _, _, _, rfl, .ty _, .base (.str _), kit_ss, fin _ st h _ m H Grow.refl rel (.bl _)⟩
  · obtain ⟨rfl, h⟩ := h
    obtain ⟨x, y, rfl, r1, r2⟩ := rv.two
    cases r1
    cases r2
    exact ⟨_, _, _, _, _, rfl, .ty _, .base (.int _), kit_is, fin _ st h _ m H Grow.refl rel (.bl _)⟩
  · exact h.elim
theorem c_isStr {es : List Expr} {g : SemA} {p : Pos} (hm : X.mg "isinstance" = none) (ha : JA X T W (e :: es) g) (hg : Gl X "isinstance" := by rfl) (he : starEach (e :: es) X.env = (false, eval e X.env) :: starEach es X.env := by rfl) (hpl : (backTo pos (starEach es X.env)).any (·.1) = false := by rfl) :
    JE X T W (.Call (.Name "isinstance" p) (e :: es) [] pos) (sCB oIsStr g) := w_callB call_isi cs_isStr hg hm bt_isinstance ha (by decide) (by decide) he hpl
end
def kUnl2 (i j : Nat) : SemG := fun v ρ st P => match v with
  | .hd n => match st[n]? with
    | some (.lst [a, b]) => P ((ρ.set i (some a)).set j (some b)) st
    | _ => False
  | _ => False
section
variable {X : Cx} {T : List (Addr × Str)} {W : WX} {pos : Pos}
theorem g_unl2 {i j : Nat} {x y : Str} {p1 p2 : Pos} {k : Nat} (hc : X.calm = true) (hN : X.N.Nodup) (hi : X.N[i]? = some x) (hx : Loc X.env.scope x) (hj : X.N[j]? = some y) (hy : Loc X.env.scope y)
    (hfx : X.fn x = true ∨ X.env.scope.names.lookup x = some .local := by first | exact .inl rfl | exact .inr rfl | assumption) (hfy : X.fn y = true ∨ X.env.scope.names.lookup y = some .local := by first | exact .inl rfl | exact .inr rfl | assumption) :
    JG X T (.Tuple [.Name x p1, .Name y p2] k pos) (kUnl2 i j) :=
  PG.imp (pg_unl hc (pgs_cons (pg_name hN hi hx hfx) (pgs_cons (pg_name hN hj hy hfy) pgs_nil))) fun xv σ H Q h => by
    obtain ⟨v, ρ, st, m, P, rv, rs, rel, hg, fin⟩ := h
    unfold kUnl2 at hg
    split at hg
    · split at hg
      · rename_i hl
        cases rv with
        | hd hn _ =>
          obtain ⟨xs, hq, hs⟩ := rel.ob _ _ _ hn hl
          obtain ⟨a1, b1, rfl, r1, r2⟩ := hs.two
          exact ⟨_, _, rfl, SqL.of hq, rfl, a1, [b1], rfl, b1, [], rfl, rfl, fin _ st hg _ m H Grow.refl rel ((rs.set i r1).set j r2)⟩
      · exact hg.elim
    · exact hg.elim
end
def kTupIx2 (fo fi fo' fi' : Sem) : SemG := fun v ρ st P => match v with
  | .tup [a, b] => kIx fo fi a ρ st fun ρ' st' => kIx fo' fi' b ρ' st' P
  | _ => False
def sParIx2 (f g fo fi fo' fi' : Sem) : SemS := sAsgG (sTup (sCons f (sCons g sNil))) (kTupIx2 fo fi fo' fi')
section
variable {X : Cx} {T : List (Addr × Str)} {W : WX} {pos p2 p3 pt pt2 : Pos} {a b o i o' i' : Expr} {f g fo fi fo' fi' : Sem}
theorem g_tupIx2 {k : Nat} (hc : X.calm = true) (ho : JE X T W o fo) (hi : JE X T W i fi) (ho' : JE X T W o' fo') (hi' : JE X T W i' fi')
    (haa : ∀ v, assign (.Subscript o i p2) X.env v = (do
      let ov ← holding [v] (eval o X.env)
      let iv ← holding [v, ov] (eval i X.env)
      standAt p2
      holding [v, ov, iv] (setItem ov iv v)
      release [v, ov, iv] []) := by intro _; rfl)
    (hab : ∀ v, assign (.Subscript o' i' p3) X.env v = (do
      let ov ← holding [v] (eval o' X.env)
      let iv ← holding [v, ov] (eval i' X.env)
      standAt p3
      holding [v, ov, iv] (setItem ov iv v)
      release [v, ov, iv] []) := by intro _; rfl) : JG X T (.Tuple [.Subscript o i p2, .Subscript o' i' p3] k pt) (kTupIx2 fo fi fo' fi') :=
  PG.imp (pg_tup hc (pgs_cons (pg_sub ho hi set_list haa) (pgs_cons (pg_sub ho' hi' set_list hab) pgs_nil))) fun xv σ H Q h => by
    obtain ⟨v, ρ, st, m, P, rv, rs, rel, hg, fin⟩ := h
    unfold kTupIx2 at hg
    split at hg
    · cases rv with
      | tup hq hs =>
        obtain ⟨a1, b1, rfl, r1, r2⟩ := hs.two
        refine ⟨_, _, rfl, hq, rfl, a1, [b1], rfl, ?_⟩
        refine ⟨ρ, st, m, _, _, rs, rel, hg, fun vo st2 hvo xo m2 H2 g2 rel2 rvo => ?_, ?_⟩
        · refine ⟨ρ, st2, m2, _, _, rs.grow rel g2, rel2, hvo, fun vi st3 hvi xi m3 H3 g3 rel3 rvi => ?_, ?_⟩
          · dsimp only at hvi
            split at hvi
            · split at hvi
              · rename_i l hl
                split at hvi
                · rename_i jj hjj
                  cases rvi
                  cases rvo.grow rel2 g3 with
                  | @hd a n hn _ =>
                    obtain ⟨xs, hqq, hxs⟩ := rel3.ob _ _ _ hn hl
                    have rx := (r1.grow rel g2).grow rel2 g3
                    have ry := (r2.grow rel g2).grow rel2 g3
                    have rel4 := rel3.upd hn hqq (RVs.set rx jj hxs)
                    have g4 : Grow m3 H3 m3 (L2.upd H3 a (.lst (xs.set jj a1))) := Grow.upd hn hqq
                    refine ⟨a, xs, _, jj, rfl, rfl, hqq, by rw [hxs.length]; exact hjj, b1, [], rfl, ?_⟩
                    have rs4 := ((rs.grow rel g2).grow rel2 g3).grow rel3 g4
                    have ry4 := ry.grow rel3 g4
                    refine ⟨ρ, _, _, _, _, rs4, rel4, hvi, fun vo st5 hvo5 xo5 m5 H5 g5 rel5 rvo5 => ?_, ?_⟩
                    · refine ⟨ρ, st5, m5, _, _, rs4.grow rel4 g5, rel5, hvo5, fun vi st6 hvi6 xi6 m6 H6 g6 rel6 rvi6 => ?_, ?_⟩
                      · dsimp only at hvi6
                        split at hvi6
                        · split at hvi6
                          · rename_i l6 hl6
                            split at hvi6
                            · rename_i jj6 hjj6
                              cases rvi6
                              cases rvo5.grow rel5 g6 with
                              | @hd a6 n6 hn6 _ =>
                                obtain ⟨xs6, hq6, hxs6⟩ := rel6.ob _ _ _ hn6 hl6
                                have ry6 := (ry4.grow rel4 g5).grow rel5 g6
                                have rel7 := rel6.upd hn6 hq6 (RVs.set ry6 jj6 hxs6)
                                have g7 : Grow m6 H6 m6 (L2.upd H6 a6 (.lst (xs6.set jj6 b1))) := Grow.upd hn6 hq6
                                exact ⟨a6, xs6, _, jj6, rfl, rfl, hq6, by rw [hxs6.length]; exact hjj6, rfl, fin _ _ hvi6 _ m6 _ ((((g2.trans g3).trans g4).trans g5).trans (g6.trans g7)) rel7 (((rs4.grow rel4 g5).grow rel5 g6).grow rel6 g7)⟩
                            · exact hvi6.elim
                          · exact hvi6.elim
                        · exact hvi6.elim
                      · intro _ _ h
                        exact h.elim
                    · intro _ _ h
                      exact h.elim
                · exact hvi.elim
              · exact hvi.elim
            · exact hvi.elim
          · intro _ _ h
            exact h.elim
        · intro _ _ h
          exact h.elim
    · exact hg.elim
theorem s_parIx2 {k k2 : Nat} (hc : X.calm = true) (ha : JE X T W a f) (hb : JE X T W b g) (ho : JE X T W o fo) (hi : JE X T W i fi) (ho' : JE X T W o' fo') (hi' : JE X T W i' fi')
    (haa : ∀ v, assign (.Subscript o i p2) X.env v = (do
      let ov ← holding [v] (eval o X.env)
      let iv ← holding [v, ov] (eval i X.env)
      standAt p2
      holding [v, ov, iv] (setItem ov iv v)
      release [v, ov, iv] []) := by intro _; rfl)
    (hab : ∀ v, assign (.Subscript o' i' p3) X.env v = (do
      let ov ← holding [v] (eval o' X.env)
      let iv ← holding [v, ov] (eval i' X.env)
      standAt p3
      holding [v, ov, iv] (setItem ov iv v)
      release [v, ov, iv] []) := by intro _; rfl)
    (h1 : starEach [a, b] X.env = (false, eval a X.env) :: starEach [b] X.env := by rfl) (h2 : starEach [b] X.env = (false, eval b X.env) :: starEach [] X.env := by rfl)
    (hs : swapsWithSole [.Tuple [.Subscript o i p2, .Subscript o' i' p3] k pt] (.Tuple [a, b] k2 pt2) pos.line X.env = pure false := by rfl)
    (hw : swappedStores [.Tuple [.Subscript o i p2, .Subscript o' i' p3] k pt] (.Tuple [a, b] k2 pt2) X.env = pure none := by rfl)
    (h3 : (assignEach [.Tuple [.Subscript o i p2, .Subscript o' i' p3] k pt] X.env).map (·.2) = [assign (.Tuple [.Subscript o i p2, .Subscript o' i' p3] k pt) X.env] := by rfl) :
    JS X T W (.Assign [.Tuple [.Subscript o i p2, .Subscript o' i' p3] k pt] (.Tuple [a, b] k2 pt2) pos) (sParIx2 f g fo fi fo' fi') :=
  s_asgG (w_tup (a_cons ha (a_cons hb a_nil h2) h1)) (g_tupIx2 (W := W) hc ho hi ho' hi' haa hab) hs hw h3
end
end Sm
set_option Elab.async false
set_option linter.all false
set_option maxRecDepth 100000
set_option maxHeartbeats 1000000
namespace Sm
open PySem PySem.Spec PyProof.Rows L2
abbrev JET (X : Cx) (T : List (Addr × Str)) (W : WX) (e : Expr) (f : Sem) : Prop := PET X e (tE X.K T W f)
abbrev JAT (X : Cx) (T : List (Addr × Str)) (W : WX) (es : List Expr) (f : SemA) : Prop := PAT X es (tA X.K T W f)
def PTT (X : Cx) (e : Expr) (t : TT) : Prop := ∀ (pins : List (Addr × Obj)) (s : Shared) (σ : L2.St) (H : Hp) (Q : Bool → Hp → Prop), 1 ≤ s.toks → Inv X pins σ H s → t σ H Q → wpAny (model X.prog X.w) X.A (isTrue e X.env (eval e X.env)) (fun c s1 => ∃ H1, Inv X pins σ H1 s1 ∧ Q c H1) X.xe s
abbrev JTT (X : Cx) (T : List (Addr × Str)) (W : WX) (e : Expr) (f : SemT) : Prop := PTT X e (tT X.K T W f)
abbrev JST (X : Cx) (T : List (Addr × Str)) (W : WX) (s : Stmt) (f : SemS) : Prop := PST X s (tS X.K T W f)
abbrev JSsT (X : Cx) (T : List (Addr × Str)) (W : WX) (s : List Stmt) (f : SemS) : Prop := PSsT X s (tS X.K T W f)
theorem PET.imp {X : Cx} {e : Expr} {t t' : TE} (h : PET X e t) (i : ∀ σ H Q, t' σ H Q → t σ H Q) : PET X e t' := fun pins s σ H Q k I q => h pins s σ H Q k I (i σ H Q q)
theorem PAT.imp {X : Cx} {e : List Expr} {t t' : TA} (h : PAT X e t) (i : ∀ σ H Q, t' σ H Q → t σ H Q) : PAT X e t' := fun pos pins s σ H Q k I q => h pos pins s σ H Q k I (i σ H Q q)
theorem PST.imp {X : Cx} {e : Stmt} {t t' : TS} (h : PST X e t) (i : ∀ D σ H, t' D σ H → t D σ H) : PST X e t' := fun pins s σ H D k I q => h pins s σ H D k I (i D σ H q)
theorem PSsT.imp {X : Cx} {e : List Stmt} {t t' : TS} (h : PSsT X e t) (i : ∀ D σ H, t' D σ H → t D σ H) : PSsT X e t' := fun pins s σ H D k I q => h pins s σ H D k I (i D σ H q)
/-- e.replace(y, z) -/
def sRepl (f : Sem) (y z : Str) : Sem := fun ρ st P PX => f ρ st (fun v st1 => match v with
  | .str x => x.length + (x.length + 1) * z.length ≤ 16777216 ∧ P (.str (Txt.replace x y z)) st1
  | _ => False) PX
section
variable {X : Cx} {T : List (Addr × Str)} {W : WX} {pos : Pos} {a b c e : Expr} {es rest : List Expr} {f g h : Sem} {ga : SemA}
theorem et_repl {y z : Str} {j k : Nat} {c0 c1 apos : Pos} (ho : JE X T W e f) (hyz : (y == z) = false := by decide)
    (hst : starEach [.Constant (.str y) j c0, .Constant (.str z) k c1] X.env = [(false, eval (.Constant (.str y) j c0) X.env), (false, eval (.Constant (.str z) k c1) X.env)] := by rfl)
    (hbase : attributeBase e "replace" X.env (eval e X.env) = eval e X.env := by rfl) (hline : (apos.endLine == pos.line) = true := by rfl) :
    JET X T W (.Call (.Attribute e "replace" apos) [.Constant (.str y) j c0, .Constant (.str z) k c1] [] pos) (sRepl f y z) := PET.imp (CwR.pet_replC ho hyz hst hbase hline) fun σ H Q h => by
  obtain ⟨ρ, st, m, P, PX, rs, rel, hf, fin, finx⟩ := h
  refine ⟨ρ, st, m, _, PX, rs, rel, hf, fun v st1 hv x m1 H1 g1 rel1 rv1 => ?_, finx⟩
  dsimp only at hv
  split at hv
  · cases rv1
    exact ⟨_, rfl, hv.1, fin _ st1 hv.2 _ m1 H1 g1 rel1 (.str _)⟩
  · exact hv.elim
theorem at_one (ha : JET X T W e f) (hs : starEach [e] X.env = (false, eval e X.env) :: starEach [] X.env := by rfl) : JAT X T W [e] (sCons f sNil) := PAT.imp (pat_cons ha pat_nil hs) fun σ H Q h => by
  obtain ⟨ρ, st, m, P, PX, rs, rel, hf, fin, finx⟩ := h
  refine ⟨ρ, st, m, _, PX, rs, rel, hf, fun v st1 hv x m1 H1 g1 rel1 rv1 => ?_, finx⟩
  exact fin _ st1 hv _ m1 H1 g1 rel1 (.cons rv1 .nil)
theorem et_andV (ha : JE X T W a f) (hb : JET X T W (.BoolOp .And (b :: rest) pos) g) : JET X T W (.BoolOp .And (a :: b :: rest) pos) (sAnd f g) := by
  intro pins s σ H Q k I h
  obtain ⟨ρ, st, m, P, PX, rs, rel, hf, fin, finx⟩ := h
  have h1 : tE X.K T W f σ H (fun x H1 => ∃ c, x = .bl c ∧ if c = true then tE X.K T W g σ H1 Q else Q (.bl false) H1) := by
    refine ⟨ρ, st, m, _, PX, rs, rel, hf, fun v st1 hv x m1 H1 g1 rel1 rv1 => ?_, finx⟩
    dsimp only at hv
    split at hv
    · cases rv1
      refine ⟨_, rfl, ?_⟩
      rw [if_pos rfl]
      exact ⟨ρ, st1, m1, P, PX, rs.grow rel g1, rel1, hv, fin.step g1, finx.step g1⟩
    · cases rv1
      refine ⟨_, rfl, ?_⟩
      rw [if_neg Bool.false_ne_true]
      exact fin _ st1 hv _ m1 H1 g1 rel1 (.bl _)
    · exact hv.elim
  refine BoolOp_and (wpAny_mono (wpAny_toks (ha.run pins s σ H _ I h1)) (fun v s1 ⟨k1, x, H1, I1, r1, q1⟩ => ?_) fun _ _ z => z.2)
  obtain ⟨c, rfl, q1⟩ := q1
  cases r1
  refine wpAny_truthy_bool ?_
  cases c with
  | true => exact hb pins s1 σ H1 Q (Nat.le_trans k k1) I1 q1
  | false => exact ⟨.bl false, H1, I1, rfl, q1⟩
theorem et_and1 (ha : JET X T W a f) : JET X T W (.BoolOp .And [a] pos) f := fun pins s σ H Q k I q => BoolOp_one (ha pins s σ H Q k I q)
theorem st_ret (he : JET X T W e f) : JST X T W (.Return (some e) pos) (sRet f) := PST.imp (CwR.pst_ret he) fun D σ H h => by
  obtain ⟨ρ, st, m, D', rs, rel, hf, fin⟩ := h
  exact ⟨ρ, st, m, _, _, rs, rel, hf, fin.rt, fin.finx rel rs⟩
theorem zt_one {s : Stmt} {t : SemS} (h : JST X T W s t) : JSsT X T W [s] t := fun pins s' σ H D k I q => by
  have h2 : PSsT X [s] (tSeq (tS X.K T W t) tNext) := CwR.psst_one h
  refine h2 pins s' σ H D k I ?_
  obtain ⟨ρ, st, m, D', rs, rel, hf, fin⟩ := q
  exact ⟨ρ, st, m, D', rs, rel, hf, ⟨fun ρ1 st1 h1 σ1 m1 H1 g1 rel1 rs1 => fin.nx ρ1 st1 h1 σ1 m1 H1 g1 rel1 rs1, fin.rt, fin.bk, fin.ct, fin.ex⟩⟩
theorem zt_cons {s : Stmt} {ss : List Stmt} {t u : SemS} (h1 : JST X T W s t) (h2 : JSsT X T W ss u) : JSsT X T W (s :: ss) (sSeq t u) := PSsT.imp (psst_cons h1 h2) fun D σ H h => by
  obtain ⟨ρ, st, m, D', rs, rel, hf, fin⟩ := h
  exact ⟨ρ, st, m, _, rs, rel, hf, ⟨fun ρ1 st1 h1 σ1 m1 H1 g1 rel1 rs1 => ⟨ρ1, st1, m1, D', rs1, rel1, h1, fin.step g1⟩, fin.rt, fin.bk, fin.ct, fin.ex⟩⟩
theorem tt_val (ha : JET X T W e f) (he : ∀ whole, isTrue e X.env whole = (do let v ← whole; standAt e.pos; holding [v] (truthy v)) := by intro _; rfl) : JTT X T W e (sTest f) := by
  intro pins s σ H Q k I h
  obtain h := tB_of h
  refine isTrue_plain (thn (ha pins s σ H _ k I h) fun v s1 ⟨x, H1, I1, r1, q1⟩ => ?_) (he _)
  obtain ⟨d, rfl, q⟩ := q1
  cases r1
  exact wpAny_truthy_bool ⟨H1, I1, q⟩
theorem tt_not {t : SemT} (ha : JTT X T W a t) : JTT X T W (.UnaryOp .Not a pos) (sNotT t) := by
  intro pins s σ H Q k I h
  have h1 : tT X.K T W t σ H (fun c H1 => Q (!c) H1) := by
    obtain ⟨ρ, st, m, P, PX, rs, rel, hf, fin, finx⟩ := h
    exact ⟨ρ, st, m, _, PX, rs, rel, hf, fun b st1 hb m1 H1 g1 rel1 => fin _ st1 hb m1 H1 g1 rel1, finx⟩
  exact isTrue_not (ha pins s σ H (fun c H1 => Q (!c) H1) k I h1)
theorem st_if {tc : SemT} {x y : List Stmt} {t u : SemS} (hc : JTT X T W c tc) (ha : JSs X T W x t) (hb : JSs X T W y u) : JST X T W (.If c x y pos) (sIfS tc t u) := by
  intro pins s σ H D k I h
  have h1 : tT X.K T W tc σ H (fun b H1 => if b = true then tS X.K T W t D σ H1 else tS X.K T W u D σ H1) := by
    obtain ⟨ρ, st, m, D', rs, rel, hf, fin⟩ := h
    refine ⟨ρ, st, m, _, _, rs, rel, hf, fun v st1 hv m1 H1 g1 rel1 => ?_, fin.finx rel rs⟩
    cases v with
    | true =>
      rw [if_pos rfl]
      exact ⟨ρ, st1, m1, D', rs.grow rel g1, rel1, hv, fin.step g1⟩
    | false =>
      rw [if_neg Bool.false_ne_true]
      exact ⟨ρ, st1, m1, D', rs.grow rel g1, rel1, hv, fin.step g1⟩
  refine wpAny_If (thn (hc pins s σ H _ k I h1) fun d s1 ⟨H1, I1, q1⟩ => ?_)
  cases d with
  | true => exact ha.run pins s1 σ H1 D I1 q1
  | false => exact hb.run pins s1 σ H1 D I1 q1
/-- a call by name, an argument of which wants a token -/
theorem et_cg {gd : Bool} {k j : Nat} {x : Str} {ps : List Str} {dv : List PV} {S : SpecF} {p : Pos} (G : Gd X.prog X.w X.K T X.mg X.base gd k x ps dv S) (hr : Room j X.A) (hkj : k ≤ j) (hgd : Gu gd X.A) (tk : Takes X W) (ha : JAT X T W (e :: es) ga) (hg : Gl X x := by rfl) (hdb : (x == ("__debug__" : Str)) = false := by decide) (he : starEach (e :: es) X.env = (false, eval e X.env) :: starEach es X.env := by rfl)
    (hpl : (backTo pos (starEach es X.env)).any (·.1) = false := by rfl) : JET X T W (.Call (.Name x p) (e :: es) [] pos) (sCall S dv ga) := by
  obtain ⟨f, fd, ds, dvs, hm, hk, hb, hd, hdv, F⟩ := G.ex
  intro pins s σ H Q k0 I h
  obtain ⟨ρ, st, m, P, PX, rs, rel, hf, fin, finx⟩ := h
  refine wpAny_Call_Name_kw (ld_glob I hg hm ?_ hdb)
  have h1 : tA X.K T W ga σ H (fun xs H1 => spOf X.K T S (xs ++ dvs) H1 Q (fun c d H' => W c d σ H')) :=
    ⟨ρ, st, m, _, PX, rs, rel, hf, fun vs st1 hv xs m1 H1 g1 rel1 rv1 => ⟨vs ++ dv, st1, m1, P, PX, rv1.append (hdv m1 H1), rel1, hv, fin.step g1, finx.step g1⟩, finx⟩
  exact PySem.W.callWith_K (h₀ := X.base) I.ok.mod.kin hk (thn (ha pos pins s σ H _ k0 I h1) fun us s1 ⟨vs, H1, I1, r, q⟩ => ⟨I1.kIn, run_g F (hr.mono hkj) hgd hb hd tk I1 r q⟩) he hpl
end
structure FnGT (P : Program) (w : World) (K : PySem.W.Frag) (T : List (Addr × Str)) (mg : Str → Option Value) (base : Heap) (k : Nat) (f : Addr) (fd : FuncData) (ps : List Str) (S : SpecF) : Prop where
  len : ∀ pvs st Q PX, S pvs st Q PX → pvs.length = ps.length
  run : ∀ (A : Around) (outer : List PySem.Env) (s : Shared) (H : Hp) (args : Args) (us : List Value) (vs : List V) (Q : VK) (E : XK), 1 ≤ s.toks → Room k A → Env0 P w K mg base A outer s H →
    BindsTo s fd args (ps.zip us) → Vals vs us → spOf K T S vs H Q E → codeAny (model P w) A (.call (.ref f) args) (CR (L2.CX P w) outer P w H s Q E) s
abbrev BodT (P : Program) (w : World) (K : PySem.W.Frag) (T : List (Addr × Str)) (mg : Str → Option Value) (base : Heap) (N : List Str) (qual : Str) (s : List Stmt × Arguments × Scope) (k : Nat) (f : Addr) (S : SpecF) : Prop :=
  ∀ (cdv : Value) (A : Around) (outer : List PySem.Env) (sh : Shared) (H : Hp) (E : XK), Room k (A.deeper (envOfC qual s.2.2 sh.heap.objs.size f cdv)) →
    ∃ t : SemS, JSsT (cxOf (L2.CX P w) P w K mg base N qual s.2.2 f cdv A outer sh H E) T (fun cls d _ H' => E cls d H') s.1 t ∧ ∀ pvs st Q PX, S pvs st Q PX → t (endOf Q PX) (ini N pvs) st
section
variable {P : Program} {w : World} {K : PySem.W.Frag} {T : List (Addr × Str)} {mg : Str → Option Value} {base : Heap} {x qual : Str} {s : List Stmt × Arguments × Scope} {N ps : List Str} {k : Nat} {S : SpecF} {dvs : List V} {kws : List (Str × V)} {f C : Addr} {fd : FuncData}
theorem fnT_body (F : FunD K x qual s.2.1 s.1 s.2.2 dvs kws f fd) (Sc : FnScope N ps s.2.2) (len : ∀ pvs st Q PX, S pvs st Q PX → pvs.length = ps.length) (hbody : BodT P w K T mg base N qual s k f S) :
    FnGT P w K T mg base (k + 1) f fd ps S := by
  obtain ⟨oc, od, dV, kV, doc, pm, an, cdv, ct, osl, rfl, lk, hcd, _, _⟩ := F.ex
  refine ⟨len, fun A outer sh H args us vs Q E k0 hr e0 hb r hsp => ?_⟩
  obtain ⟨pvs, st, m, PQ, PX, rv, rel, hS, fin, finx⟩ := hsp
  have hl := len _ _ _ _ hS
  have hlv : vs.length = ps.length := rv.length.trans hl
  have KX : K.In sh.heap := e0.mod.kin.keeps fun b o e => (e0.bs b o e).1
  have lim : sh.heap.NoLimit := e0.mod.nolimit.keeps fun b o e => (e0.bs b o e).1
  have kinds : ∀ y ∈ ps.zip us, s.2.2.names.lookup y.1 = some .local ∨ (s.2.2.names.lookup y.1 = some .cell ∧ ((cellsFrom (sh.heap.objs.size + 1) s.2.2.names []).lookup y.1).isSome = true) := by
    intro ⟨n, v⟩ hy
    have hp := Sc.par n (List.of_mem_zip hy).1
    exact hp.imp id fun q => ⟨q, PySem.W.cellsFrom_some _ _ _ (.inl q)⟩
  have hr2 : Room k (A.deeper (envOfC qual s.2.2 sh.heap.objs.size f cdv)) := hr.deeper _
  refine codeAny_call_function hr.depth (KX _ _ lk) rfl Sc.co Sc.gen rfl (PySem.W.codeRec_of KX hcd) (hb _ _ _ _ ?_)
  refine wpAny_mono (wpAny_toks_of k0 (wpAny_newFunctionEnv_cells (Q := fun env s1 => env = envOfC qual s.2.2 sh.heap.objs.size f cdv ∧ InCallC sh env.locals (bindL env.kindOf (ps.zip us) fun _ => none) env.cells (bindC env.kindOf (ps.zip us) fun _ => none) s1) Sc.kind kinds fun env he s1 xx => ⟨he, xx⟩)) (fun env s1 hh => ?_) fun _ _ z => z.2
  obtain ⟨k1, he, xx⟩ := hh
  subst he
  refine ⟨lim.keeps xx.toInCall.keep, codeAny_func ?_⟩
  obtain ⟨t, ht, hq⟩ := hbody cdv A outer sh H E hr2
  have I := inv_start (CX := L2.CX P w) (E := E) (f := f) (cd := cdv) (qual := qual) Sc hr.hd e0 hlv r xx
  have goal : tS K T (fun cls d _ H' => E cls d H') t { nx := fun _ H' => Q .non H', rt := Q } (L2.start N vs) H :=
    ⟨ini N pvs, st, m, _, rs_ini rv, rel, hq pvs st PQ PX hS, ⟨fun ρ st' p σ m' H' g r' _ => fin .non st' p .non m' H' g r' .non, fin, fun _ _ p => p.elim, fun _ _ p => p.elim, fun e ρ st' p cls d σ m' H' g r' _ ex => finx e st' p cls d m' H' g r' ex⟩⟩
  refine wpAny_mono (ht [] s1 (L2.start N vs) H _ k1 I goal) (fun fl s' hs => ?_) fun e s' hs => hs
  cases fl with
  | ret u =>
    obtain ⟨v, σ', H', J, rr, q⟩ := hs
    exact ⟨v, H', J.os, J.bare, J.base, J.hok, rr, q⟩
  | next =>
    obtain ⟨σ', H', J, q⟩ := hs
    exact ⟨V.non, H', J.os, J.bare, J.base, J.hok, rfl, q⟩
  | brk =>
    obtain ⟨_, _, _, q⟩ := hs
    exact q.elim
  | cont =>
    obtain ⟨_, _, _, q⟩ := hs
    exact q.elim
end
structure GdT (P : Program) (w : World) (K : PySem.W.Frag) (T : List (Addr × Str)) (mg : Str → Option Value) (base : Heap) (k : Nat) (x : Str) (ps : List Str) (S : SpecF) : Prop where
  ex : ∃ (f : Addr) (fd : FuncData), mg x = some (.ref f) ∧ PySem.W.keepIn K (.ref f) = true ∧ Binds K fd ps [] ∧ FnGT P w K T mg base k f fd ps S
structure GmT (P : Program) (w : World) (K : PySem.W.Frag) (T : List (Addr × Str)) (mg : Str → Option Value) (base : Heap) (k : Nat) (C : Addr) (x : Str) (ps : List Str) (S : SpecF) : Prop where
  ex : ∃ (f : Addr) (fd : FuncData), Meth K C x f ∧ Binds K fd ps [] ∧ FnGT P w K T mg base k f fd ps S
section
variable {P : Program} {w : World} {K : PySem.W.Frag} {T : List (Addr × Str)} {mg : Str → Option Value} {base : Heap} {x qual : Str} {s : List Stmt × Arguments × Scope} {N ps : List Str} {k : Nat} {S : SpecF} {f C : Addr} {fd : FuncData}
theorem gT_def (F : Fc K mg x s []) (Sc : FnScope N ps s.2.2) (bnd : Bnd x x s ps) (len : ∀ pvs st Q PX, S pvs st Q PX → pvs.length = ps.length) (hb : ∀ f, BodT P w K T mg base N x s k f S) : GdT P w K T mg base (k + 1) x ps S := by
  obtain ⟨f, fd, F, hm⟩ := F
  exact ⟨f, fd, hm, F.kp, F.bindsN bnd, fnT_body F Sc len (hb f)⟩
theorem gT_meth (M : Meth K C x f) (F : FunD K x qual s.2.1 s.1 s.2.2 [] [] f fd) (Sc : FnScope N ps s.2.2) (bnd : Bnd x qual s ps) (len : ∀ pvs st Q PX, S pvs st Q PX → pvs.length = ps.length) (hb : BodT P w K T mg base N qual s k f S) : GmT P w K T mg base (k + 1) C x ps S :=
  ⟨f, fd, M, F.bindsN bnd, fnT_body F Sc len hb⟩
end
section
variable {X : Cx} {T : List (Addr × Str)} {W : WX} {pos : Pos} {e o : Expr} {es : List Expr} {ga : SemA} {k j : Nat} {x : Str} {ps : List Str} {S : SpecF}
theorem run_gT {f : Addr} {fd : FuncData} {pins : List (Addr × Obj)} {σ : L2.St} {H : Hp} {s : Shared} {Q : VK} {us : List Value} {vs : List V} (F : FnGT X.prog X.w X.K T X.mg X.base k f fd ps S) (hr : Room k X.A) (hb : Binds X.K fd ps [])
    (tk : Takes X W) (k0 : 1 ≤ s.toks) (I : Inv X pins σ H s) (r : Vals vs us) (h : spOf X.K T S vs H Q (fun c d H' => W c d σ H')) : wpAny (model X.prog X.w) X.A (call (.ref f) us) (EP X pins σ Q) X.xe s := by
  have hl : (us ++ []).length = ps.length := by
    obtain ⟨pvs, st, m, P, PX, rv, _, hS, _⟩ := id h
    rw [List.append_nil, rv.len2 r, F.len _ _ _ _ hS]
  have c := F.run X.A X.stack s H ⟨us, []⟩ (us ++ []) vs Q _ k0 hr I.env0 (hb s us I.kIn hl) (by rw [List.append_nil]; exact r) h
  refine wpAny_call (codeAny_mono c fun res s' hq => ?_)
  cases res with
  | error ex => exact passAt tk σ pins H s ex s' I hq
  | ok fl =>
    cases fl with
    | ret u => exact I.after hq
    | _ => exact False.elim hq
theorem et_cgT {p : Pos} (G : GdT X.prog X.w X.K T X.mg X.base k x ps S) (hr : Room j X.A) (hkj : k ≤ j) (tk : Takes X W) (ha : JA X T W (e :: es) ga) (hg : Gl X x := by rfl) (hdb : (x == ("__debug__" : Str)) = false := by decide) (he : starEach (e :: es) X.env = (false, eval e X.env) :: starEach es X.env := by rfl)
    (hpl : (backTo pos (starEach es X.env)).any (·.1) = false := by rfl) : JET X T W (.Call (.Name x p) (e :: es) [] pos) (sCall S [] ga) := by
  obtain ⟨f, fd, hm, hk, hb, F⟩ := G.ex
  intro pins s σ H Q k0 I h
  obtain ⟨ρ, st, m, P, PX, rs, rel, hf, fin, finx⟩ := h
  refine wpAny_Call_Name_kw (ld_glob I hg hm ?_ hdb)
  have h1 : tA X.K T W ga σ H (fun xs H1 => spOf X.K T S xs H1 Q (fun c d H' => W c d σ H')) :=
    ⟨ρ, st, m, _, PX, rs, rel, hf, fun vs st1 hv xs m1 H1 g1 rel1 rv1 => ⟨vs, st1, m1, P, PX, rv1, rel1, (by have z : S (vs ++ []) st1 P PX := hv; rwa [List.append_nil] at z), fin.step g1, finx.step g1⟩, finx⟩
  exact PySem.W.callWith_K (h₀ := X.base) I.ok.mod.kin hk (wpAny_mono (wpAny_toks_of k0 (ha.run pos pins s σ H _ I h1)) (fun us s1 ⟨k1, vs, H1, I1, r, q⟩ => ⟨I1.kIn, run_gT F (hr.mono hkj) hb tk k1 I1 r q⟩) fun _ _ z => z.2) he hpl
theorem et_meth {apos : Pos} {fo : Sem} {C : Addr} {pl : PySem.Sem Bool} (c : Cls X.K C) (G : GmT X.prog X.w X.K T X.mg X.base k C x ps S) (hr : Room j X.A) (hkj : k ≤ j) (tk : Takes X W) (ho : JE X T W o fo) (ha : JA X T W (e :: es) ga)
    (hst : starEach (e :: es) X.env = (false, eval e X.env) :: starEach es X.env := by rfl) (hpl : (backTo pos (starEach es X.env)).any (·.1) = false := by rfl)
    (ht : eval (.Call (.Attribute o x apos) (e :: es) [] pos) X.env = (do
      let ov ← eval o X.env
      standAt apos.atName
      let (f, first) ← holding [ov] (getMethod ov x pl)
      callWith pos f first (backTo pos (starEach (e :: es) X.env)) (backToKw pos (keywordEach [] X.env))) := by rfl) :
    JET X T W (.Call (.Attribute o x apos) (e :: es) [] pos) (sMeth C x S [] fo ga) := by
  obtain ⟨f, fd, hm, h3, F⟩ := G.ex
  intro pins s σ H Q k0 I h
  obtain ⟨ρ, st, m, P, PX, rs, rel, hf, fin, finx⟩ := h
  have h1 : tE X.K T W fo σ H (fun xv H1 => ∃ a dx kvs, xv = .ref a ∧ H1 a = some (.ins C dx kvs) ∧ kvs.lookup x = none ∧ tA X.K T W ga σ H1 (fun xs H2 => spOf X.K T S (xv :: xs) H2 Q (fun c d H' => W c d σ H'))) := by
    refine ⟨ρ, st, m, _, PX, rs, rel, hf, fun v st1 hv xv m1 H1 g1 rel1 rv1 => ?_, finx⟩
    dsimp only at hv
    split at hv
    · rename_i fs hfs
      obtain ⟨n', a, dx, kvs, rfl, rfl, hm', hst', ha', hk, hr'⟩ := insAt_ok rel1 rv1 hfs
      exact ⟨a, dx, kvs, rfl, ha', look_none hk hv.1, ρ, st1, m1, _, PX, rs.grow rel g1, rel1, hv.2, fun vs st2 hv2 xs m2 H2 g2 rel2 rv2 => ⟨_, st2, m2, P, PX, .cons (rv1.grow rel1 g2) rv2, rel2, (by have z : S (PV.oh n' :: (vs ++ [])) st2 P PX := hv2; rwa [List.append_nil] at z), (fin.step g1).step g2, (finx.step g1).step g2⟩, finx.step g1⟩
    · exact hv.elim
  refine PySem.W.methodCall_KW (pl := pl) (wpAny_mono (wpAny_toks_of k0 (ho.run pins s σ H _ I h1)) (fun u s1 ⟨k1, xv, H1, I1, rx, a, dx, kvs, ex, ea, l, q⟩ => ?_) fun _ _ z => z.2) ht
  subst ex
  obtain rfl : u = Value.ref a := rx
  refine getmeth_ok I1 ea c hm l ?_
  refine PySem.W.callWith_K (first := [.ref a]) (h₀ := X.base) I.ok.mod.kin hm.kp (wpAny_mono (wpAny_toks_of k1 (ha.run pos pins s1 σ H1 _ I1 q)) (fun us s2 ⟨k2, vs, H2, I2, r, q2⟩ => ⟨I2.kIn, ?_⟩) fun _ _ z => z.2) hst hpl
  exact run_gT (us := .ref a :: us) (vs := .ref a :: vs) F (hr.mono hkj) h3 tk k2 I2 (.cons rfl r) q2
end
theorem pa_strT {X : Cx} {w : Str} {j : Nat} {cp : Pos} {es : List Expr} {ta : TA} (h : PAT X es ta) (hs : starEach (.Constant (.str w) j cp :: es) X.env = (false, eval (.Constant (.str w) j cp) X.env) :: starEach es X.env) : PA X (.Constant (.str w) j cp :: es) (tCons (tC (.str w)) ta) := by
  constructor
  intro pos pins s σ H Q I hq
  rw [hs]
  show wpAny _ _ (spliced ((false, eval (.Constant (.str w) j cp) X.env) :: backTo pos (starEach es X.env))) _ _ s
  apply Calls.spliced_cons
  apply Calls.Constant_str
  have run := h pos pins { s with toks := s.toks + 1 } σ H _ (Nat.succ_pos _) (I.tok _) hq
  exact thn run fun us sB => by
    rintro ⟨xs, HB, IB, rB, qB⟩
    exact ⟨.str w :: xs, HB, IB, .cons ⟨_, rfl⟩ rB, qB⟩
/-- the def's frame, where a lambda's got -/
abbrev cxG (X : Cx) (Ng : List Str) (x : Str) (sg : Scope) (g : Addr) (cdg : Value) (s : Shared) (H : Hp) : Cx := cxOf C8.CX0 X.prog X.w X.K X.mg X.base Ng x sg g cdg X.A X.stack s H C8.E0
/-- what a call of the held lambda tells in that frame -/
abbrev tAct (f c' : Addr) (q : Str) (r : Hp → VK → Prop) : TE := fun σZ HZ Q => σZ[0]? = some (some (.ref f)) ∧ HZ c' = some (LamX.CodeO c' q) ∧ r HZ Q
theorem act_tok {X : Cx} {pins : List (Addr × Obj)} {σ : L2.St} {H : Hp} {s : Shared} {Ng : List Str} {qg : Str} {sg : Scope} {g f c' : Addr} {cdg pm ctv : Value} {params : Arguments} {body : Expr} {scope : Scope} {k : Nat} {a : Str} {pn : List (Addr × Obj)} {xe : Value → Shared → Prop} {W : WX} {E : XK} {tb : TE} {p1 p2 : Pos}
    (I : Inv X pins σ H s) (L : LamX.LamS X.env.scope scope) (hf : s.heap.get? f = some (PySem.W.kla_obj "<lambda>" (X.env.qual ++ "<lambda>") params body scope (cloFrom X.env.cells scope.names []) pm c' ctv)) (hfn : H f = none) (hfr : f ∉ frs X.stack)
    (nb : bindArgs (PySem.W.kla_fn "<lambda>" (X.env.qual ++ "<lambda>") params body scope (cloFrom X.env.cells scope.names []) pm (.ref c') ctv) ⟨[], []⟩ = pure [])
    (tk : Takes ((cxG X Ng qg sg g cdg s H).tr pn xe) W) (hW : ∀ cls d σ' H', E cls d H' → W cls d σ' H') (hr : Room (k + 1) (X.A.deeper (envOfC qg sg s.heap.objs.size g cdg)))
    (hbody : ∀ (A : Around) (outer : List PySem.Env) (s : Shared) (H : Hp), Room k (A.deeper (LamX.lamEnv X scope s.heap.objs.size f c')) → PET (LamX.lamCx X A outer s H E scope f c') body tb)
    (hN : Ng[0]? = some a) (hv : Vis sg a) (hd : (a == ("__debug__" : Str)) = false) (hcd : (a == ("__classdict__" : Str)) = false) :
    PET ((cxG X Ng qg sg g cdg s H).tr pn xe) (.Call (.Name a p1) [] [] p2) (tAct f c' (X.env.qual ++ "<lambda>") (tb σ)) := by
  intro pinsZ sZ σZ HZ Q k0 IZ h
  have nm := (pe_var (X := (cxG X Ng qg sg g cdg s H).tr pn xe) (pos := p1) (i := 0) hN hv hd hcd).run pinsZ sZ σZ HZ (fun v H1 => v = .ref f ∧ H1 = HZ) IZ ⟨.ref f, h.1, rfl, rfl⟩
  refine wpAny_Call_Name_kw (wpAny_mono (wpAny_toks_of k0 nm) (fun u sA hu => ?_) fun _ _ z => z.2)
  obtain ⟨kA, v, HA, IA, rA, rfl, rfl⟩ := hu
  obtain rfl : u = Value.ref f := rA
  have got := IA.base.keep f _ hf hfn hfr (List.not_mem_nil)
  refine PySem.W.callWith_F0 (Exists.intro _ (Exists.intro _ (Exists.intro _ (Exists.intro _ got)))) ?_
  have un : Un (frs X.stack) [] H HA s.heap sA.heap := IA.base
  have cdO := (IA.hok c' _ h.2.1).1
  have inner : codeAny (model X.prog X.w) (X.A.deeper (envOfC qg sg s.heap.objs.size g cdg)) (.call (.ref f) ⟨[], []⟩) (CR (L2.CX X.prog X.w) (envOfC qg sg s.heap.objs.size g cdg :: X.stack) X.prog X.w HA sA Q E) sA := by
    obtain ⟨oc, vs, t, w1, w2, w3⟩ := cdO
    refine PySem.W.kla_callFunE hr.depth got rfl L.co L.gen rfl ⟨c', oc, vs, t, rfl, w1, w2, w3⟩ ?_
    rw [nb]
    refine wpAny_pure (wpAny_newFunctionEnv (fun y hy => (L.own y hy).2) (fun y hy => (List.not_mem_nil hy).elim) (fun hN2 ns sb => ⟨IA.nolimit.fresh _ sb, ?_⟩) L.kind)
    show codeAny _ _ (.expr body (LamX.lamEnv X scope sA.heap.objs.size f c')) _ _
    have keep : ∀ b o, sA.heap.get? b = some o → hN2.get? b = some o := by
      intro b o e
      exact sb.extBut b o (Nat.ne_of_lt (Heap.lt_size e)) (Heap.get?_push_of_some _ e)
    have J : Inv (LamX.lamCx X (X.A.deeper (envOfC qg sg s.heap.objs.size g cdg)) (envOfC qg sg s.heap.objs.size g cdg :: X.stack) sA HA E scope f c') [] σ HA { sA with heap := hN2, toks := sA.toks + ([] : List (Str × Value)).length } :=
      LamX.lam_start2 I L IA.env0 hr.hd un ns keep
    have go := hbody (X.A.deeper (envOfC qg sg s.heap.objs.size g cdg)) (envOfC qg sg s.heap.objs.size g cdg :: X.stack) sA HA (hr.deeper _) [] { sA with heap := hN2, toks := sA.toks + ([] : List (Str × Value)).length } σ HA Q (Nat.le_trans kA (Nat.le_add_right _ _)) J h.2.2
    refine PySem.W.kla_codeExpr (wpAny_mono go (fun v sB hB => ?_) fun _ _ z => z)
    obtain ⟨xB, HB, JB, rB, qB⟩ := hB
    exact ⟨xB, HB, JB.os, JB.bare, JB.base, JB.hok, rB, qB⟩
  have pass : Passes (L2.CX X.prog X.w) ((cxG X Ng qg sg g cdg s H).tr pn xe) E := passes_call tk hW
  apply wpAny_call
  refine codeAny_mono inner fun res sB hB => ?_
  match res, hB with
  | .error ex, hB => exact pass pinsZ σZ HA sA ex sB IA hB
  | .ok (.ret _), hB => exact IA.after hB
  | .ok .next, hB => exact False.elim hB
  | .ok .brk, hB => exact False.elim hB
  | .ok .cont, hB => exact False.elim hB
/-- the def that calls what it got, once a token is out -/
def GivesT (X : Cx) (Ng : List Str) (x : Str) (sg : Scope) (g : Addr) (cdg : Value) (bg : List Stmt) (a : Str) (q : Str) (TT : (XK → Hp → VK → Prop) → Hp → VK → Prop) : Prop :=
  ∀ (f c' : Addr) (s : Shared) (H : Hp) (Q : VK) (tl : XK → Hp → VK → Prop),
    (∀ (W : WX) (pn : List (Addr × Obj)) (xe : Value → Shared → Prop) (E : XK) (p1 p2 : Pos), Takes ((cxG X Ng x sg g cdg s H).tr pn xe) W → (∀ cls d σ' H', E cls d H' → W cls d σ' H') → PET ((cxG X Ng x sg g cdg s H).tr pn xe) (.Call (.Name a p1) [] [] p2) (tAct f c' q (tl E))) →
    H c' = some (LamX.CodeO c' q) → TT tl H Q → ∃ t, PSs (cxG X Ng x sg g cdg s H).nox bg t ∧ t { nx := fun _ H' => Q .non H', rt := Q } (L2.start Ng [.ref f]) H
theorem pe_lamtok {X : Cx} {T : List (Addr × Str)} {TT : (XK → Hp → VK → Prop) → Hp → VK → Prop} {x a : Str} {g c P : Addr} {k : Nat} {pg : Arguments} {bg : List Stmt} {sg : Scope} {dV kV doc pm cdv ct oc : Value} {an od : Option Addr} {osl : Array (Option Value)} {Ng : List Str}
    {params : Arguments} {body : Expr} {scope : Scope} {t : XK → TE} {p lpos pos : Pos} (hg : Gl X x) (hm : X.mg x = some (.ref g)) (kp : PySem.W.keepIn X.K (.ref g) = true)
    (lk : X.K.lookup g = some ⟨oc, od, .func (PySem.W.fnOf x x pg bg sg dV kV doc pm an cdv ct), osl⟩) (hcg : PySem.W.codeIn X.K cdv x = true) (hb : L2.Binds X.K (PySem.W.fnOf x x pg bg sg dV kV doc pm an cdv ct) [a] []) (Sg : FnScope Ng [a] sg) (hNg : Ng[0]? = some a) (hva : Vis sg a)
    (hG : GivesT X Ng x sg g cdv bg a (X.env.qual ++ "<lambda>") TT)
    (TB : LamX.TabB X.base X.mg c P) (hcode : X.env.code = .ref c) (hmT : (P, X.env.qual ++ "<lambda>") ∈ T) (hu : ∀ p ∈ T, p.1 = P → p.2 = X.env.qual ++ "<lambda>") (hr : Room (k + 2) X.A) (L : LamX.LamS X.env.scope scope) (hdef : defaultsOf params X.env = ([], []))
    (hbind : ∀ (q : Str) (cl : List (Str × Addr)) (pm cv ctv : Value), bindArgs (PySem.W.kla_fn "<lambda>" q params body scope cl pm cv ctv) ⟨[], []⟩ = pure [])
    (hbody : ∀ (A : Around) (outer : List PySem.Env) (s : Shared) (H : Hp) (E : XK) (f c' : Addr), Room k (A.deeper (LamX.lamEnv X scope s.heap.objs.size f c')) → PET (LamX.lamCx X A outer s H E scope f c') body (t E))
    (hdb : (x == ("__debug__" : Str)) = false) (hd : (a == ("__debug__" : Str)) = false) (hcd : (a == ("__classdict__" : Str)) = false) :
    PE X (.Call (.Name x p) [.Lambda params body scope lpos] [] pos) (LamX.tLam T TT t) := by
  constructor
  intro pins s σ H Q I h
  apply wpAny_Call_Name_kw
  apply ld_glob I hg hm _ hdb
  refine PySem.W.callWith_K (h₀ := X.base) I.ok.mod.kin kp ?_ (by rfl) (by rfl)
  show wpAny _ _ (spliced ((false, eval (.Lambda params body scope lpos) X.env) :: backTo pos (starEach [] X.env))) _ _ s
  apply Calls.spliced_cons
  refine LamX.lam_make2 I TB hcode hmT hu h.1 hdef (L.has I.ok) fun f c' pmL ctL HL sL IL grown tabs hf hfn hfr hco => ?_
  apply Calls.spliced_nil
  refine ⟨IL.kIn, ?_⟩
  have ran : codeAny (model X.prog X.w) X.A (.call (.ref g) ⟨[.ref f], []⟩) (CR C8.CX0 X.stack X.prog X.w HL sL Q C8.E0) sL := by
    refine LamX.run_ofS (N := Ng) (ps := [a]) (us := [.ref f]) (vs := [.ref f]) lk hcg Sg hr IL.env0 (hb sL [.ref f] IL.kIn rfl) (.cons rfl .nil) rfl fun room => ?_
    obtain ⟨tB, hB, qB⟩ := hG f c' sL HL Q (fun E H' Q' => t E σ H' Q') (fun W pn xe E q1 q2 tk hW => act_tok (k := k) IL L hf hfn hfr (hbind _ _ _ _ _) tk hW room (fun A outer s H rm => hbody A outer s H E f c' rm) hNg hva hd hcd) hco (h.2 HL grown tabs)
    exact Exists.intro tB (And.intro hB.nox qB)
  apply wpAny_call
  refine codeAny_mono ran fun res sB hB => ?_
  match res, hB with
  | .error _, hB => exact (show False from hB).elim
  | .ok (.ret _), hB => exact IL.after hB
  | .ok .next, hB => exact False.elim hB
  | .ok .brk, hB => exact False.elim hB
  | .ok .cont, hB => exact False.elim hB
section
variable {X : Cx} {T : List (Addr × Str)} {W : WX}
theorem giveT_tok {Ng : List Str} {x a q word : Str} {sg : Scope} {g : Addr} {cdg : Value} {h₀ : ExceptHandler} {hds : List ExceptHandler} {l : List SHd} {j1 j2 : Nat} {p1 p2 p3 p4 p5 p8 : Pos}
    (h0 : ∀ f : Addr, (L2.start Ng [V.ref f])[0]? = some (some (V.ref f)))
    (hst : ∀ (E : PySem.Env), starEach [.Constant (.str word) j1 p4, .Call (.Name a p1) [] [] p2] E = (false, eval (.Constant (.str word) j1 p4) E) :: starEach [.Call (.Name a p1) [] [] p2] E)
    (hst2 : ∀ (E : PySem.Env), starEach [.Call (.Name a p1) [] [] p2] E = (false, eval (.Call (.Name a p1) [] [] p2) E) :: starEach [] E)
    (hh : ∀ (s : Shared) (H : Hp), JHd (cxG X Ng x sg g cdg s H).nox T (h₀ :: hds) l) :
    GivesT X Ng x sg g cdg [.Try [.Return (some (.Tuple [.Constant (.str word) j1 p4, .Call (.Name a p1) [] [] p2] j2 p5)) p3] (h₀ :: hds) [] [] p8] a q (giveTT X.K T l word Ng.length) := by
  intro f c' s H Q tl act hc h
  obtain ⟨Ech, hE, ht⟩ := h
  refine ⟨_, pss_one (ps_tryG (X := (cxG X Ng x sg g cdg s H).nox) (Wout := W0) (tb := fun W' D σ H => ∃ Ech : XK, (∀ cls d (σ' : L2.St) H', σ'.length = Ng.length → Ech cls d H' → W' cls d σ' H') ∧ σ[0]? = some (some (.ref f)) ∧ H c' = some (LamX.CodeO c' q) ∧ tl Ech H fun x H' => [V.str word, x].length ≤ sizeLine ∧ ∀ p, H' p = none → D.rt (.ref p) (upd H' p (.tup [.str word, x])))
    rfl rfl LamX.takes0 (fun W' pn xe tk _ => ?_) (hh s H).hd), ?_⟩
  · refine ⟨fun pins s' σ H' D I h' => ?_⟩
    obtain ⟨Ech, hW, h1, h2, h3⟩ := h'
    have hp := act (fun c d σ H => σ.length = Ng.length → W' c d σ H) pn xe Ech p1 p2 (takes_len tk) (fun cls d σ' H' he hl => hW cls d σ' H' hl he)
    exact (pss_one (ps_ret (pe_tup (pa_strT (pat_cons hp pat_nil (hst2 _)) (hst _))))).run pins s' σ H' D I ⟨h1, h2, h3⟩
  · exact ⟨Ech, fun cls d σ' H' hl he => hE cls d σ' H' hl he, h0 f, hc, ht⟩
theorem w_giveTok {Ng : List Str} {x a word : Str} {sg : Scope} {pg : Arguments} {c P : Addr} {k : Nat} {h₀ : ExceptHandler} {hds : List ExceptHandler} {l : List SHd} {j1 j2 : Nat} {p1 p2 p3 p4 p5 p8 p lpos pos : Pos} {params : Arguments} {body : Expr} {scope : Scope} {f : Sem}
    (F : Fc X.K X.mg x ([.Try [.Return (some (.Tuple [.Constant (.str word) j1 p4, .Call (.Name a p1) [] [] p2] j2 p5)) p3] (h₀ :: hds) [] [] p8], pg, sg) []) (Sg : FnScope Ng [a] sg)
    (bnd : ∀ (kV doc pm : Value) (an : Option Addr) (cdv ct : Value) (us : List Value), us.length = 1 → bindArgs (PySem.W.fnOf x x pg [.Try [.Return (some (.Tuple [.Constant (.str word) j1 p4, .Call (.Name a p1) [] [] p2] j2 p5)) p3] (h₀ :: hds) [] [] p8] sg .none kV doc pm an cdv ct) ⟨us, []⟩ = pure ([a].zip us))
    (hN0 : Ng[0]? = some a) (hva : Vis sg a)
    (hst : ∀ (E : PySem.Env), starEach [.Constant (.str word) j1 p4, .Call (.Name a p1) [] [] p2] E = (false, eval (.Constant (.str word) j1 p4) E) :: starEach [.Call (.Name a p1) [] [] p2] E)
    (hst2 : ∀ (E : PySem.Env), starEach [.Call (.Name a p1) [] [] p2] E = (false, eval (.Call (.Name a p1) [] [] p2) E) :: starEach [] E)
    (hh : ∀ (g : Addr) (cdg : Value) (s : Shared) (H : Hp), JHd (cxG X Ng x sg g cdg s H).nox T (h₀ :: hds) l)
    (TB : LamX.TabB X.base X.mg c P) (hcode : X.env.code = .ref c) (hmT : (P, X.env.qual ++ "<lambda>") ∈ T) (hu : ∀ p ∈ T, p.1 = P → p.2 = X.env.qual ++ "<lambda>") (hr : Room (k + 2) X.A) (L : LamX.LamS X.env.scope scope) (hdef : defaultsOf params X.env = ([], []))
    (hbind : ∀ (q : Str) (cl : List (Str × Addr)) (pm cv ctv : Value), bindArgs (PySem.W.kla_fn "<lambda>" q params body scope cl pm cv ctv) ⟨[], []⟩ = pure [])
    (hbody : ∀ (A : Around) (outer : List PySem.Env) (s : Shared) (H : Hp) (E : XK) (fl c' : Addr), Room k (A.deeper (LamX.lamEnv X scope s.heap.objs.size fl c')) → JET (LamX.lamCx X A outer s H E scope fl c') T (fun cls d _ H' => E cls d H') body f)
    (hg : Gl X x := by rfl) (hdb : (x == ("__debug__" : Str)) = false := by decide) (hd : (a == ("__debug__" : Str)) = false := by decide) (hcd : (a == ("__classdict__" : Str)) = false := by decide) :
    JE X T W (.Call (.Name x p) [.Lambda params body scope lpos] [] pos) (sGiveT X.K l word Ng.length f) := by
  obtain ⟨g, fd, F, hm⟩ := F
  have hb : Binds X.K fd [a] [] := F.bindsN fun kV doc pm an cdv ct us hl => bnd kV doc pm an cdv ct us hl
  have kp := F.kp
  obtain ⟨oc, od, dV, kV, doc, pm, an, cdv, ct, osl, rfl, lk, hcd', _, _⟩ := F.ex
  refine PE.imp (pe_lamtok (T := T) (TT := giveTT X.K T l word Ng.length) (t := fun E => tE X.K T (fun cls d _ H' => E cls d H') f) hg hm kp lk hcd' hb Sg hN0 hva (giveT_tok (fun f => ?_) hst hst2 (hh g cdv)) TB hcode hmT hu hr L hdef hbind (fun A outer s H E fl c' hr => hbody A outer s H E fl c' hr) hdb hd hcd) fun σ H Q hq => ?_
  · have hl : 0 < Ng.length := (List.getElem?_eq_some_iff.mp hN0).1
    unfold L2.start
    rfl
  · obtain ⟨ρ, st, m, PQ, PX, rs, rel, hf, fin, finx⟩ := hq
    refine ⟨rel.tab, fun H1 eN t1 => ?_⟩
    have g1 : Grow m H m H1 := Grow.ext eN
    have rel1 := rel.ext eN t1
    refine ⟨fun cls d H' => ∃ e st' m', hnd X.K (gtEnd word PQ) l e (List.replicate Ng.length none) st' ∧ Grow m H m' H' ∧ Rel X.K T m' st' H' ∧ ExR X.K m' H' cls d e, fun cls d σ' H' hl ⟨e, st', m', h1, h2, h3, h4⟩ => ?_, ρ, st, m, _, _, rs.grow rel g1, rel1, hf, fun v st' hv xv m' H' g2 r2 rx => ?_, fun e st' he cls d m' H' g2 r2 ex => ⟨e, st', m', he, g1.trans g2, r2, ex⟩⟩
    · refine hnd_ok (W := W0) (m := m) (H := H) (D := gtEnd word PQ) (D' := ⟨fun _ H' => Q .non H', Q, fun _ _ => False, fun _ _ => False⟩) ⟨fun ρ1 st1 p1 σ1 m1 H1 g1 r1 _ => fin _ st1 p1 _ m1 H1 g1 r1 .non, fin, fun _ _ p => p.elim, fun _ _ p => p.elim, fun _ _ _ p => p.elim⟩ l e _ st' h1 cls d σ' m' H' h2 h3 (rs_none hl) h4
    · refine ⟨by show 2 ≤ sizeLine; decide, fun p hp => ?_⟩
      exact fin _ st' hv _ m' _ ((g1.trans g2).trans (Grow.new hp)) (r2.new hp) (.tup (SqT.of upd_same) (.cons (.str word) (.cons (rx.grow r2 (Grow.new hp)) .nil)))
end
def oListH : SCall := fun vs st P => match vs with
  | [.tup l] => P (.hd st.length) (st ++ [.lst l])
  | _ => False
theorem cs_listH {K : PySem.W.Frag} {T : List (Addr × Str)} : CallS K T (fun xs H Q => rListS xs H Q ∨ ∃ p ys, xs = [.ref p] ∧ (SqL K H p ys ∨ SqT K H p ys) ∧ ∀ l, H l = none → Q (.ref l) (upd H l (.lst ys))) oListH := fun xs vs m H st P Q rel rv h fin => by
  unfold oListH at h
  split at h
  · obtain ⟨x, rfl, r⟩ := rv.one
    cases r with
    | tup hq hs => exact .inr ⟨_, _, rfl, .inr hq, fun p hn => fin _ _ h _ _ _ (Grow.hand rel hn) (rel.hand hn hs) (.hd (get_hand rel) ⟨_, upd_same, rfl⟩)⟩
  · exact h.elim
section
variable {X : Cx} {T : List (Addr × Str)} {W : WX} {p pos : Pos} {e : Expr} {es : List Expr} {g : SemA}
theorem c_listH (hc : X.calm = true) (hm : X.mg "list" = none) (ha : JA X T W (e :: es) g) (hg : Gl X "list" := by rfl) (he : starEach (e :: es) X.env = (false, eval e X.env) :: starEach es X.env := by rfl) (hpl : (backTo pos (starEach es X.env)).any (·.1) = false := by rfl) :
    JE X T W (.Call (.Name "list" p) (e :: es) [] pos) (sCB oListH g) := w_callTy (CallR.or (call_list_text hc) call_list_of) cs_listH hg hm bt_list ha (by decide) (by decide) he hpl
end
end Sm
set_option Elab.async false
set_option linter.all false
set_option maxRecDepth 100000
set_option maxHeartbeats 1000000
namespace Sm
open PySem PySem.Spec PyProof.Rows L2 PySem.W
def kwN : Value → Bool
  | .none => true
  | _ => false
def exB (K : Frag) (x : Str) (bmB : List Value) (newId : String) (f : Str) : Bool :=
  let C := He.ga K x
  let i := He.ma K C "__init__"
  excInitIn K C bmB newId && hasDictIn K C
    && He.eqO (findIn K (.ref C) "__setattr__") (some (some (.builtin "object.__setattr__")))
    && He.eqO (findIn K (.ref C) "__getattribute__") (some (some (.builtin "BaseException.__getattribute__")))
    && He.eqO (findIn K (.ref C) "__getattr__") (some none)
    && He.eqO (findIn K (.ref C) f) (some none)
    && He.eqO (findIn K (.ref C) "__init__") (some (some (.ref i)))
    && decide (typeIn K (.ref i) = some (.type "function"))
    && keepIn K (.ref C)
    && decide (subIn K (.ref C) (.type "BaseException") = some true)
    && decide (typeIn K (.ref C) = some (.type "type"))
    && (match K.lookup i with
      | some ⟨_, _, .func fd, _⟩ => kwN fd.kwdefaults
      | _ => false)
theorem cls_of {K : Frag} {C : Addr} {bmB : List Value} {newId : String} (q : excInitIn K C bmB newId = true) (hd : hasDictIn K C = true) :
    ∃ nm qn N bs bm sn sub ab col dd k0 k1 k2 k3 k5, K.lookup C = some (excClassObj nm qn C N bs bm true sn sub ab col dd k0 k1 k2 k3 k5 newId) ∧ excTail bmB bm = true := by
  unfold excInitIn at q
  split at q
  · rename_i dd cd sl ho
    split at q
    · rename_i D bm k0 k1 k2 k3 m k5 hm hs
      simp only [Bool.and_eq_true, beq_iff_eq, Bool.not_eq_true'] at q
      obtain ⟨⟨⟨rfl, rfl⟩, hdel⟩, ht⟩ := q
      obtain ⟨nm, bs, mro, N, qn, hh, sn, sub, ab, col, del⟩ := cd
      dsimp only at hm hdel
      subst hm hdel
      have hh' : hh = true := by
        unfold hasDictIn clsIn at hd
        rw [ho] at hd
        exact hd
      subst hh'
      have es : sl = #[k0, k1, k2, k3, some (.builtin m), k5] := by
        obtain ⟨sl⟩ := sl
        simp only at hs
        rw [hs]
      subst es
      exact ⟨nm, qn, N, bs, bm, sn, sub, ab, col, dd, k0, k1, k2, k3, k5, ho, ht⟩
    · cases q
  · cases q
theorem ad_ga {K : Frag} {mg : Str → Option Value} {x : Str} (hm : mg x = some (.ref (He.ga K x))) : ad mg x = He.ga K x := by
  unfold ad
  rw [hm]
theorem exI_of {K : Frag} {mg : Str → Option Value} {x : Str} {B BK newId initId : String} {bmB : List Value} {f qi : String} {p1 p2 q1 q2 q3 q4 : Pos} {fd : FuncData} (FB : SxO.NewF B newId initId bmB) (SF : StoreFacts BK bmB "object.__setattr__" "object") (FO : SxO.FldOk f)
    (hm : mg x = some (.ref (He.ga K x))) (h : exB K x bmB newId f = true)
    (F : FunD K "__init__" qi (SxO.xArgs f p1 p2) (SxO.xBody f q1 q2 q3 q4) (SxO.xScope f) [] [] (He.ma K (He.ga K x) "__init__") fd) : ExI K mg x f := by
  unfold exB at h
  simp only [Bool.and_eq_true] at h
  obtain ⟨⟨⟨⟨⟨⟨⟨⟨⟨⟨⟨h1, h2⟩, h3⟩, h4⟩, h5⟩, h6⟩, h7⟩, h8⟩, h9⟩, h10⟩, h11⟩, h12⟩ := h
  refine ⟨B, newId, initId, bmB, He.ma K (He.ga K x) "__init__", qi, ?_, FO, by rw [ad_ga hm]; exact hm⟩
  rw [ad_ga hm]
  refine ⟨FB, ⟨_, SF⟩, cls_of h1 h2, He.eqO_ok h3, He.eqO_ok h4, He.eqO_ok h5, He.eqO_ok h6, He.eqO_ok h7, of_decide_eq_true h8, h9, of_decide_eq_true h10, of_decide_eq_true h11, h2, ?_⟩
  obtain ⟨oc, od, dV, kV, doc, pm, an, cdv, ct, osl, rfl, lk, hcd, hD, _⟩ := F.ex
  rw [lk] at h12
  have ek : kV = .none := by
    have z : kwN kV = true := h12
    cases kV <;> first | rfl | cases z
  subst ek
  rcases hD with ⟨_, rfl⟩ | ⟨e, _⟩
  · exact ⟨oc, od, doc, pm, an, cdv, ct, osl, p1, p2, q1, q2, q3, q4, lk, hcd⟩
  · exact absurd rfl e
end Sm
set_option Elab.async false
set_option linter.all false
set_option maxRecDepth 100000
set_option maxHeartbeats 1000000
namespace PySem.SxO
open PySem PySem.Spec PyProof.Rows L2
theorem fld_limit : FldOk "limit" := ⟨fun _ _ _ _ => rfl, fun _ _ _ _ => rfl, by decide +kernel, fun _ _ _ _ _ _ _ _ _ _ _ _ _ _ => rfl, fun _ _ _ _ _ _ => rfl, fun _ _ _ _ _ _ => rfl, fun _ _ => rfl⟩
end PySem.SxO
namespace Sm
open PySem PySem.Spec PyProof.Rows L2 PySem.W
end Sm
set_option Elab.async false
set_option linter.all false
set_option maxRecDepth 100000
set_option maxHeartbeats 1000000
namespace PySem.F
open PySem PySem.Spec PyProof.Rows L2
abbrev keB : List Value := [.type "KeyError", .type "LookupError", .type "Exception", .type "BaseException", .type "object"]
theorem new_KeyError : SxO.NewF "LookupError" "LookupError.__new__" "LookupError.__init__" keB := ⟨excBase_LookupError.toExcCallFacts, excBase_LookupError.newSplit, excBase_LookupError.newKind, excBase_LookupError.newRow, by decide +kernel, by decide +kernel, by decide +kernel, excBase_LookupError.canon⟩
theorem store_KeyError : StoreFacts "KeyError" keB "object.__setattr__" "object" :=
  ⟨by kernel_rfl, .of (owner := "object") (n := "__setattr__") (by rw [typeLookup_type, builtinLookup_eq_fast]; kernel_rfl) (by decide +kernel) (by decide +kernel) (by decide +kernel) (by first | exact .inl (by decide +kernel) | exact .inr (by decide +kernel)) (by rw [isSubtype_type]; kernel_rfl), entry_object_sa, by decide +kernel, by decide +kernel, by decide +kernel, fun a b c => (by unfold argsOk; kernel_rfl), fun self => by kernel_rfl⟩
end PySem.F
namespace PySem.SxO
open PySem PySem.Spec PyProof.Rows L2
theorem fld_asked : FldOk "asked" := ⟨fun _ _ _ _ => rfl, fun _ _ _ _ => rfl, by decide +kernel, fun _ _ _ _ _ _ _ _ _ _ _ _ _ _ => rfl, fun _ _ _ _ _ _ => rfl, fun _ _ _ _ _ _ => rfl, fun _ _ => rfl⟩
theorem fld_taken : FldOk "taken" := ⟨fun _ _ _ _ => rfl, fun _ _ _ _ => rfl, by decide +kernel, fun _ _ _ _ _ _ _ _ _ _ _ _ _ _ => rfl, fun _ _ _ _ _ _ => rfl, fun _ _ _ _ _ _ => rfl, fun _ _ => rfl⟩
end PySem.SxO
namespace Sm
open PySem PySem.Spec PyProof.Rows L2 PySem.W
def pgA (K : Frag) (C : Addr) (x : Str) : Addr := match recIn K (He.ma K C x) "property" with
  | some (.ref g :: _) => g
  | _ => 0
def prB (K : Frag) (C : Addr) (x : Str) : Bool :=
  He.eqO (findIn K (.ref C) x) (some (some (.ref (He.ma K C x))))
    && He.eqO (specialIn K (.ref (He.ma K C x)) "__get__") (some (some (.builtin "property.__get__")))
    && decide (takesIn K (.ref (He.ma K C x)) = some true)
    && (match recIn K (He.ma K C x) "property" with
      | some (.ref _ :: _) => true
      | _ => false)
theorem prB_ok {K : Frag} {C : Addr} {x : Str} (h : prB K C x = true) : PropOf K C x (He.ma K C x) (pgA K C x) := by
  unfold prB at h
  simp only [Bool.and_eq_true] at h
  obtain ⟨⟨⟨h1, h2⟩, h3⟩, h4⟩ := h
  refine ⟨He.eqO_ok h1, He.eqO_ok h2, of_decide_eq_true h3, ?_⟩
  unfold pgA
  split at h4
  · rename_i g rest e
    rw [e]
    exact ⟨rest, rfl⟩
  · cases h4
/-- the def at a -/
def fnA (K : Frag) (a : Addr) : He.FnW := match K.lookup a with
  | some ob => (match ob.data with
    | .func f => some (f.name, f.qualname, f.params, f.body, f.scope, f.globals, f.closure, f.builtins)
    | _ => none)
  | none => none
def okA (K : Frag) (a : Addr) (d : He.DefD) : Bool := keepIn K (.ref a) && (match K.lookup a with
  | some ob => (match ob.data with
    | .func f => codeIn K f.code d.qual && He.dflB K f.defaults (d.dvs K) && He.kwdB K f.kwdefaults (d.kws K)
    | _ => false)
  | none => false)
theorem fnA_ok {K : Frag} {a : Addr} {d : He.DefD} (e : fnA K a = d.val) (h : okA K a d = true) : ∃ fd, FunD K d.name d.qual d.params d.body d.scope (d.dvs K) (d.kws K) a fd := by
  unfold okA at h
  obtain ⟨kp, h⟩ := Bool.and_eq_true_iff.mp h
  unfold fnA at e
  split at h
  · rename_i ob lk
    rw [lk] at e
    obtain ⟨oc, od, dt, osl⟩ := ob
    dsimp only at h e
    split at h
    · rename_i f
      simp only [Bool.and_eq_true] at h
      obtain ⟨⟨c1, c2⟩, c3⟩ := h
      obtain ⟨nm, ql, pr, bd, sc, gl, cl, df, kd, dc, pm, an, cv, ct, bn⟩ := f
      have z := Option.some.inj e
      simp only [Prod.mk.injEq] at z
      obtain ⟨rfl, rfl, rfl, rfl, rfl, rfl, rfl, rfl⟩ := z
      refine ⟨_, ⟨oc, od, df, kd, dc, pm, an, cv, ct, osl, rfl, ?_, c1, He.dflB_ok c2, He.kwdB_ok c3⟩, kp⟩
      rw [lk]
    · cases h
  · cases h
structure Pr where
  C : Str
  x : Str
  d : He.DefD
structure SaysP (fa : List He.Fa) (fn : List He.DefD) (pr : List Pr) (tf : List He.Defn) (ex : Frag → Bool) (w : World) (h : Heap) (K : Frag) : Prop where
  x : He.SaysX fa fn [] tf ex w h K
  p : pr.map (fun q => fnA K (pgA K (He.ga K q.C) q.x)) = pr.map fun q => q.d.val
  b : (pr.all fun q => prB K (He.ga K q.C) q.x && okA K (pgA K (He.ga K q.C) q.x) q.d) = true
theorem SaysP.prop {fa : List He.Fa} {fn : List He.DefD} {pr : List Pr} {tf : List He.Defn} {ex : Frag → Bool} {w : World} {h : Heap} {K : Frag} (c : SaysP fa fn pr tf ex w h K) (i : Nat) {q : Pr} (e : pr[i]? = some q) :
    PropOf K (He.ga K q.C) q.x (He.ma K (He.ga K q.C) q.x) (pgA K (He.ga K q.C) q.x) ∧ ∃ fd, FunD K q.d.name q.d.qual q.d.params q.d.body q.d.scope (q.d.dvs K) (q.d.kws K) (pgA K (He.ga K q.C) q.x) fd := by
  have hb := List.all_eq_true.mp c.b q (List.mem_of_getElem? e)
  obtain ⟨h1, h2⟩ := Bool.and_eq_true_iff.mp hb
  have e2 : (pr.map fun q => fnA K (pgA K (He.ga K q.C) q.x))[i]? = (pr.map fun q => q.d.val)[i]? := by rw [c.p]
  rw [List.getElem?_map, List.getElem?_map, e] at e2
  exact ⟨prB_ok h1, fnA_ok (Option.some.inj e2) h2⟩
def seenAt (spots : List Addr) (h : Heap) : Frag := He.frT h.get? spots
theorem saysX_at {fa : List He.Fa} {fn : List He.DefD} {tf : List He.Defn} {ex : Frag → Bool} {spots : List Addr} {w : World} {h : Heap} (e : ((He.obsT fa fn [] (seenAt spots h), ex (seenAt spots h) && He.tabsB h.get? tf (seenAt spots h)) : He.AlX) = He.valX fn [] w) : He.SaysX fa fn [] tf ex w h (seenAt spots h) := by
  injection e with ea eb
  rw [Bool.and_eq_true_iff] at eb
  have each : ∀ p, p ∈ tf → codeHdIn (seenAt spots h) (He.cT (seenAt spots h) p).1 (He.cT (seenAt spots h) p).2 = true ∧ ∃ ob, h.get? (He.cT (seenAt spots h) p).2 = some ob ∧ He.emptyTab ob = true := by
    intro p hp
    have z := List.all_eq_true.mp eb.2 p hp
    rw [Bool.and_eq_true_iff] at z
    refine And.intro z.1 ?_
    have z2 := z.2
    revert z2
    cases h.get? (He.cT (seenAt spots h) p).2 with
    | some ob => exact fun z2 => ⟨ob, rfl, z2⟩
    | none => exact fun z2 => absurd z2 (by decide)
  constructor
  · exact ea
  · exact eb.1
  · exact fun p hp => (each p hp).1
  · intro p hp
    obtain ⟨ob, hob, hem⟩ := (each p hp).2
    exact He.frT_none hob hem
  · intro p hp
    obtain ⟨ob, hob, hem⟩ := (each p hp).2
    rw [hob, He.emptyTab_eq hem]
def hookP (spots : List Addr) (fa : List He.Fa) (fn : List He.DefD) (pr : List Pr) (tf : List He.Defn) (ex : Frag → Bool) : Hook :=
  { α := He.AlX × List He.FnW × Bool
    obs := fun s => ((He.obsT fa fn [] (seenAt spots s.heap), ex (seenAt spots s.heap) && He.tabsB s.heap.get? tf (seenAt spots s.heap)), pr.map (fun q => fnA (seenAt spots s.heap) (pgA (seenAt spots s.heap) (He.ga (seenAt spots s.heap) q.C) q.x)), pr.all fun q => prB (seenAt spots s.heap) (He.ga (seenAt spots s.heap) q.C) q.x && okA (seenAt spots s.heap) (pgA (seenAt spots s.heap) (He.ga (seenAt spots s.heap) q.C) q.x) q.d)
    val := fun w => (He.valX fn [] w, pr.map (fun q => q.d.val), true)
    says := fun w h => ∃ F : Frag, F.In h ∧ SaysP fa fn pr tf ex w h F
    of := fun w s e => by
      injection e with e1 e2
      injection e2 with e2 e3
      exact ⟨seenAt spots s.heap, He.frT_in, saysX_at e1, e2, e3⟩
    keeps := by
      intro w h h' hs up
      obtain ⟨F, hF, c⟩ := hs
      exact ⟨F, Frag.In.keeps hF up, ⟨c.x.t, c.x.more, c.x.hd, c.x.out, fun p hp => up _ _ (c.x.empty p hp)⟩, c.p, c.b⟩ }
/-- what is promised without a look at what is shown -/
theorem Gd.up {P : Program} {w : World} {K : Frag} {T : List (Addr × Str)} {mg : Str → Option Value} {base : Heap} {gd : Bool} {k : Nat} {x : Str} {ps : List Str} {dv : List PV} {S : SpecF} (G : Gd P w K T mg base gd k x ps dv S) : Gd P w K T mg base true k x ps dv S := by
  obtain ⟨f, fd, ds, dvs, h1, h2, h3, h4, h5, F⟩ := G.ex
  exact ⟨f, fd, ds, dvs, h1, h2, h3, h4, h5, F.len, fun A o s H a u v Q E hr hg => F.run A o s H a u v Q E hr (hg.le fun _ => rfl)⟩
def etB (K : Frag) (a : Addr) : Bool := match K.lookup a with
  | some ob => decide (ob.cls = .type "tuple") && (match ob.data with
    | .seq its _ => its.isEmpty
    | _ => false)
  | none => false
theorem etB_ok {K : Frag} {a : Addr} (h : etB K a = true) (m : List Addr) (H : Hp) : RV K m H (.ref a) (.tup []) := by
  unfold etB at h
  split at h
  · rename_i ob lk
    obtain ⟨h1, h2⟩ := Bool.and_eq_true_iff.mp h
    split at h2
    · rename_i its n hd
      have e : its = #[] := Array.isEmpty_iff.mp h2
      subst e
      exact .tup (.inr ⟨ob, #[], n, lk, of_decide_eq_true h1, hd, by decide, .nil⟩) .nil
    · cases h2
  · cases h
end Sm
set_option Elab.async false
set_option linter.all false
set_option maxRecDepth 100000
set_option maxHeartbeats 0
namespace K5
open PySem PySem.Spec PyProof.Rows L2 Sm
abbrev frees : List Str := ["type", "int", "len", "abs", "range", "str", "max", "min", "list", "enumerate", "tuple", "all", "isinstance", "dict", "sorted"]
def top (i : Nat) : Stmt := PySem.Challenge.pw_sumstead_k59_whole_disks_behind_losses_o.main.body.getD i (.Pass ⟨0, 0, 0, 0⟩)
abbrev df (i : Nat) : List Stmt × Arguments × Scope := (defBody (top i), defArgs (top i), defScope (top i))
def meth (i j : Nat) : Stmt := match top i with
  | .ClassDef _ _ _ b _ _ _ _ _ _ _ => b.getD j (.Pass ⟨0, 0, 0, 0⟩)
  | _ => .Pass ⟨0, 0, 0, 0⟩
abbrev dm (i j : Nat) : List Stmt × Arguments × Scope := (defBody (meth i j), defArgs (meth i j), defScope (meth i j))
end K5
set_option Elab.async false
set_option linter.all false
set_option maxRecDepth 100000
set_option maxHeartbeats 0
namespace K5
open PySem PySem.Spec PyProof.Rows L2 Sm
def dg (i : Nat) (x : Str) (d : List He.Dv) : He.DefD := ⟨(x, none), x, x, defArgs (top i), defBody (top i), defScope (top i), d, []⟩
def dq (C x q : Str) (i j : Nat) (d : List He.Dv) (k : List (Str × He.Dv)) : He.DefD := ⟨(C, some x), x, q, defArgs (meth i j), defBody (meth i j), defScope (meth i j), d, k⟩
def di (x q : Str) (i : Nat) : He.DefD := ⟨(x, some "__init__"), "__init__", q, defArgs (meth i 0), defBody (meth i 0), defScope (meth i 0), [], []⟩
def fn0 : List He.DefD := [dg 3 "ten_to" [], dg 4 "has_more_digits" [], dg 5 "is_integer_of" [], dg 6 "is_passed_integer" [], dg 7 "is_between" [], dg 9 "is_printable" [], dg 22 "is_name" [], dq "DiskFile" "__init__" "DiskFile.__init__" 27 0 [] [], dg 28 "_is_text" [], dg 29 "_are_choices" [], dg 30 "_choice_at" [], dq "Disk" "__init__" "Disk.__init__" 31 0 [] [("power", .non)], dq "Disk" "_check_file" "Disk._check_file" 31 3 [] [], dq "Disk" "_step" "Disk._step" 31 4 [] []]
def fn1 : List He.DefD := [dq "Disk" "_with_names" "Disk._with_names" 31 5 [] [], dq "Disk" "_other_names" "Disk._other_names" 31 6 [] [], dq "Disk" "append" "Disk.append" 31 7 [] [], dq "Disk" "sync" "Disk.sync" 31 8 [] [], dq "Disk" "remove" "Disk.remove" 31 9 [] [], dq "Disk" "rename" "Disk.rename" 31 10 [] [], dq "Disk" "sync_names" "Disk.sync_names" 31 11 [] [], dq "Disk" "read" "Disk.read" 31 12 [] [], dq "Disk" "lost" "Disk.lost" 31 15 [.adr (He.dflAt ("Disk", some "lost") 0)] [("power", .non)], dq "Disk" "put_firm" "Disk.put_firm" 31 16 [] [], dq "Disk" "__contains__" "Disk.__contains__" 31 17 [] [], dq "Disk" "__len__" "Disk.__len__" 31 18 [] [], dq "Disk" "__str__" "Disk.__str__" 31 19 [] [], dg 33 "_law_dice" []]
def fn2 : List He.DefD := [dg 34 "_law_roll" [], dg 35 "_law_one_of" [], dg 36 "_law_word_of" [], dg 37 "_law_new" [], dg 38 "_law_names" [], dg 39 "_law_step" [], dg 40 "_law_is_name" [], dg 41 "_law_lost" [], dg 42 "_law_done" [], dg 43 "_law_is_like" [], dg 44 "_law_disks_right" [], dg 45 "law" [], di "InvalidNumber" "InvalidNumber.__init__" 14, di "UnknownName" "UnknownName.__init__" 15]
def fn3 : List He.DefD := [di "PowerLost" "PowerLost.__init__" 17, di "InvalidName" "CubeError.__init__" 11, di "InvalidOperation" "CubeError.__init__" 11, di "TooMany" "TooMany.__init__" 16]
def fn : List He.DefD := fn0 ++ fn1 ++ fn2 ++ fn3
def pr0 : List Pr := [⟨"Disk", "names", dq "Disk" "names" "Disk.names" 31 1 [] []⟩, ⟨"Disk", "steps", dq "Disk" "steps" "Disk.steps" 31 2 [] []⟩]
def pr : List Pr := pr0
def fa0 : List He.Fa := [.glo "ten_to", .glo "has_more_digits", .glo "is_integer_of", .glo "is_passed_integer", .glo "is_between", .glo "is_printable", .glo "is_name", .glo "_is_text", .glo "_are_choices", .glo "_choice_at", .glo "_law_dice", .glo "_law_roll", .glo "_law_one_of", .glo "_law_word_of"]
def fa1 : List He.Fa := [.glo "_law_new", .glo "_law_names", .glo "_law_step", .glo "_law_is_name", .glo "_law_lost", .glo "_law_done", .glo "_law_is_like", .glo "_law_disks_right", .glo "law", .glo "DiskFile", .glo "Disk", .glo "InvalidNumber", .glo "UnknownName", .glo "PowerLost"]
def fa2 : List He.Fa := [.glo "InvalidName", .glo "InvalidOperation", .glo "TooMany", .int "MOST_PASSED" 60, .str "_LETTERS" "abcdefghijklmnopqrstuvwxyz", .int "_LONGEST_NAME" 8, .str "_DIGITS" "0123456789", .int "_MOST_POWER" 1000000, .int "MAX_TEXT" 200000, .int "MAX_FILES" 8, .free "type", .free "int", .free "len", .free "abs"]
def fa3 : List He.Fa := [.free "range", .free "str", .free "max", .free "min", .free "list", .free "enumerate", .free "tuple", .free "all", .free "isinstance", .free "dict", .free "sorted", .exm "InvalidName" "InvalidName" true, .exm "InvalidNumber" "InvalidName" false, .exm "InvalidNumber" "InvalidNumber" true]
def fa4 : List He.Fa := [.exm "InvalidOperation" "InvalidName" false, .exm "InvalidOperation" "InvalidNumber" false, .exm "InvalidOperation" "InvalidOperation" true, .exm "UnknownName" "InvalidName" false, .exm "UnknownName" "InvalidNumber" false, .exm "UnknownName" "InvalidOperation" false, .exm "UnknownName" "UnknownName" true, .exm "TooMany" "InvalidName" false, .exm "TooMany" "InvalidNumber" false, .exm "TooMany" "InvalidOperation" false, .exm "TooMany" "UnknownName" false, .exm "TooMany" "TooMany" true, .exm "PowerLost" "InvalidName" false, .exm "PowerLost" "InvalidNumber" false]
def fa5 : List He.Fa := [.exm "PowerLost" "InvalidOperation" false, .exm "PowerLost" "UnknownName" false, .exm "PowerLost" "TooMany" false, .exm "PowerLost" "PowerLost" true, .noat "InvalidNumber" "given", .noat "UnknownName" "asked", .noat "TooMany" "limit", .noat "PowerLost" "taken", .cls "DiskFile", .cls "Disk", .noat "DiskFile" "text", .noat "DiskFile" "firm_count", .noat "Disk" "_power", .noat "Disk" "_steps"]
def fa6 : List He.Fa := [.noat "Disk" "_tables", .mkr "DiskFile", .mkr "Disk", .meth "Disk" "_check_file", .meth "Disk" "_step", .meth "Disk" "_with_names", .meth "Disk" "_other_names", .meth "Disk" "append", .meth "Disk" "sync", .meth "Disk" "remove", .meth "Disk" "rename", .meth "Disk" "sync_names", .meth "Disk" "read", .meth "Disk" "lost"]
def fa7 : List He.Fa := [.meth "Disk" "put_firm", .meth "Disk" "__contains__", .meth "Disk" "__len__", .meth "Disk" "__str__"]
def fa : List He.Fa := fa0 ++ fa1 ++ fa2 ++ fa3 ++ fa4 ++ fa5 ++ fa6 ++ fa7
def ex (K : PySem.W.Frag) : Bool :=
  exB K "InvalidNumber" [.type "IndexError", .type "LookupError", .type "Exception", .type "BaseException", .type "object"] "IndexError.__new__" "given"
    && exB K "UnknownName" F.keB "LookupError.__new__" "asked"
    && exB K "PowerLost" [.type "RuntimeError", .type "Exception", .type "BaseException", .type "object"] "RuntimeError.__new__" "taken"
    && exB K "InvalidName" [.type "ValueError", .type "Exception", .type "BaseException", .type "object"] "ValueError.__new__" "message"
    && exB K "InvalidOperation" [.type "ValueError", .type "Exception", .type "BaseException", .type "object"] "ValueError.__new__" "message"
    && exB K "TooMany" [.type "OverflowError", .type "ArithmeticError", .type "Exception", .type "BaseException", .type "object"] "OverflowError.__new__" "limit"
    && xfB K (He.ga K "InvalidNumber")
    && xfB K (He.ga K "UnknownName")
    && xfB K (He.ga K "TooMany")
    && xfB K (He.ga K "PowerLost")
    && etB K (He.dflAt ("Disk", some "lost") 0 K)
    && decide ((He.cT K ("_law_disks_right", none)).2 ≠ (He.cT K ("_law_done", none)).2)
def tf : List He.Defn := [("_law_done", none), ("_law_disks_right", none)]
def tbs (K : PySem.W.Frag) : List (Addr × Str) := [((He.cT K ("_law_done", none)).2, lamQ "_law_done" (df 42).2.2), ((He.cT K ("_law_disks_right", none)).2, lamQ "_law_disks_right" (df 44).2.2)]
def spots : List Addr := [3, 6, 4, 21, 28, 35, 42, 49, 56, 61, 78, 91, 103, 122, 142, 162, 182, 190, 207, 218, 223, 230, 382, 393, 400, 407, 414, 421, 428, 435, 440, 447, 454, 459, 464, 471, 0, 20, 27, 34, 41, 48, 55, 60, 77, 90, 102, 121, 141, 161, 181, 189, 206, 217, 222, 229, 381, 392, 399, 406, 413, 420, 427, 434, 439, 446, 453, 458, 463, 470, 15, 16, 17, 18, 19, 22, 23, 24, 25, 26, 29, 30, 31, 32, 33, 36, 37, 38, 39, 40, 43, 44, 45, 46, 47, 50, 51, 52, 53, 54, 57, 58, 59, 75, 76, 79, 89, 101, 119, 120, 123, 139, 140, 143, 159, 160, 163, 179, 180, 183, 186, 187, 188, 204, 205, 208, 209, 212, 213, 214, 215, 216, 219, 220, 221, 224, 225, 226, 227, 228, 245, 253, 261, 268, 275, 282, 287, 294, 301, 308, 315, 322, 329, 336, 343, 353, 358, 365, 372, 379, 380, 383, 384, 387, 388, 389, 390, 391, 394, 395, 396, 397, 398, 401, 402, 403, 404, 405, 408, 409, 410, 411, 412, 415, 416, 417, 418, 419, 422, 423, 424, 425, 426, 429, 430, 431, 432, 433, 436, 437, 438, 441, 442, 443, 444, 445, 448, 449, 450, 451, 452, 455, 456, 457, 460, 461, 462, 465, 466, 467, 468, 469, 74, 118, 138, 158, 178, 203, 244, 238, 252, 260, 267, 274, 281, 286, 293, 300, 307, 314, 321, 328, 335, 342, 352, 345, 346, 357, 364, 371, 378, 69, 70, 71, 72, 73, 113, 114, 115, 116, 117, 133, 134, 135, 136, 137, 153, 154, 155, 156, 157, 173, 174, 175, 176, 177, 198, 199, 200, 201, 202, 239, 240, 241, 242, 243, 251, 259, 262, 263, 264, 265, 266, 269, 270, 271, 272, 273, 276, 277, 278, 279, 280, 283, 284, 285, 288, 289, 290, 291, 292, 295, 296, 297, 298, 299, 302, 303, 304, 305, 306, 309, 310, 311, 312, 313, 316, 317, 318, 319, 320, 323, 324, 325, 326, 327, 330, 331, 332, 333, 334, 337, 338, 339, 340, 341, 347, 348, 349, 350, 351, 344, 354, 355, 356, 359, 360, 361, 362, 363, 366, 367, 368, 369, 370, 373, 374, 375, 376, 377, 246, 247, 248, 249, 250, 254, 255, 256, 257, 258]
abbrev R : PySem.W.OpenRow := PySem.W.OpenLaw.row PySem.Challenge.rw_sumstead_k59_whole_disks_behind_losses_o
def hk : PySem.W.Hook := hookP spots fa fn pr tf ex
end K5
set_option Elab.async false
set_option linter.all false
set_option maxRecDepth 100000
set_option maxHeartbeats 1000000
namespace Wm
def low (a b : Int) : Int × Int :=
  let s : Int := if b < 0 then -(Int.gcd a b : Int) else (Int.gcd a b : Int)
  (a.fdiv s, b.fdiv s)
/-- a worth -/
abbrev Wo := Option (Int × Int)
structure Fr (x : Int × Int) : Prop where
  pos : 0 < x.2
  cop : Int.gcd x.1 x.2 = 1
theorem Fr.ne {x : Int × Int} (h : Fr x) : x.2 ≠ 0 := by have := h.pos; omega
end Wm
set_option Elab.async false
set_option linter.all false
set_option maxRecDepth 100000
set_option maxHeartbeats 1000000
namespace Wm
open PySem PySem.Spec PyProof.Rows L2 Sm
def B (n : Nat) (i : Int) : Prop := i.natAbs < 2 ^ n
theorem B.mono {m n : Nat} {i : Int} (h : B m i) (hm : m ≤ n) : B n i := Nat.lt_of_lt_of_le h (Nat.pow_le_pow_right (by decide) hm)
theorem B.mul {m n : Nat} {i j : Int} (h : B m i) (h' : B n j) : B (m + n) (i * j) := by
  unfold B at *
  rw [Int.natAbs_mul, Nat.pow_add]
  exact Nat.mul_lt_mul'' h h'
theorem bits_le {n : Nat} {i : Int} (h : B n i) : Builtin.Int.intBits i ≤ n := by
  unfold Builtin.Int.intBits
  split
  · exact Nat.zero_le _
  · rename_i hz
    have h0 : i.natAbs ≠ 0 := by
      have : ¬ i = 0 := by simpa using hz
      omega
    exact (Nat.log2_lt h0).mpr h
theorem cmul {m n : Nat} {i j : Int} (h : B m i) (h' : B n j) (hs : m + n ≤ 134217728) : CMulX i j := by
  have h1 := bits_le h
  have h2 := bits_le h'
  unfold CMulX
  omega
theorem bits_lo {i : Int} (h : i ≠ 0) : 2 ^ (Builtin.Int.intBits i - 1) ≤ i.natAbs := by
  have h0 : i.natAbs ≠ 0 := by omega
  have e : Builtin.Int.intBits i = i.natAbs.log2 + 1 := by
    unfold Builtin.Int.intBits
    simp [h]
  rw [e, Nat.add_sub_cancel]
  exact Nat.log2_self_le h0
theorem bits_hi (i : Int) : i.natAbs < 2 ^ Builtin.Int.intBits i := by
  by_cases h : i = 0
  · subst h
    exact Nat.two_pow_pos _
  · have e : Builtin.Int.intBits i = i.natAbs.log2 + 1 := by
      unfold Builtin.Int.intBits
      simp [h]
    rw [e]
    exact Nat.lt_log2_self
theorem cdiv {i j : Int} (h : B 13500 i) (hj : j ≠ 0) : CDivG i j := by
  refine ⟨hj, ?_⟩
  unfold Builtin.divisionGoesByPylong
  by_cases hi : i = 0
  · subst hi
    simp
  · have hl : i.natAbs.log2 < 13500 := (Nat.log2_lt (by omega)).mpr h
    simp only [Bool.and_eq_false_iff, decide_eq_false_iff_not]
    have e1 : (i == 0) = false := by simpa using hi
    have e2 : (j == 0) = false := by simpa using hj
    simp only [e1, e2, Bool.false_eq_true, ↓reduceIte]
    omega
theorem p1 : (2 : Nat) ^ 3321 ≤ 10 ^ 1000 := by decide +kernel
theorem p2 : (10 : Nat) ^ 1000 ≤ 2 ^ 3322 := by decide +kernel
theorem le_of_pow {a b : Nat} (h : a ^ 1000 ≤ b ^ 1000) : a ≤ b := by
  rcases Nat.lt_or_ge b a with q | q
  · have := Nat.pow_lt_pow_left q (show (1000 : Nat) ≠ 0 by decide)
    omega
  · exact q
theorem few_bits {n : Int} {m : Nat} (h : Builtin.Int.intBits n * 1000 ≤ m * 3321) : n.natAbs < 10 ^ m := by
  refine Nat.lt_of_lt_of_le (bits_hi n) (le_of_pow ?_)
  rw [← Nat.pow_mul, ← Nat.pow_mul, Nat.mul_comm m 1000, Nat.pow_mul 10 1000 m]
  refine Nat.le_trans (Nat.pow_le_pow_right (by decide) h) ?_
  rw [Nat.mul_comm m 3321, Nat.pow_mul]
  exact Nat.pow_le_pow_left p1 m
theorem many_bits {n : Int} {m : Nat} (h : m * 3322 ≤ (Builtin.Int.intBits n - 1) * 1000) (h0 : n ≠ 0) : 10 ^ m ≤ n.natAbs := by
  refine Nat.le_trans (le_of_pow ?_) (bits_lo h0)
  rw [← Nat.pow_mul, ← Nat.pow_mul, Nat.mul_comm m 1000, Nat.pow_mul 10 1000 m]
  refine Nat.le_trans (Nat.pow_le_pow_left p2 m) ?_
  rw [← Nat.pow_mul, Nat.mul_comm 3322 m]
  exact Nat.pow_le_pow_right (by decide) h
theorem b_ten (m : Nat) : B (4 * m + 1) ((10 ^ m : Nat) : Int) := by
  unfold B
  rw [Int.natAbs_natCast, Nat.pow_succ, Nat.pow_mul]
  have h1 : (10 : Nat) ^ m ≤ (2 ^ 4) ^ m := Nat.pow_le_pow_left (by decide) m
  have h2 : 0 < ((2 : Nat) ^ 4) ^ m := Nat.pow_pos (by decide)
  omega
end Wm
set_option Elab.async false
set_option linter.all false
set_option maxRecDepth 100000
set_option maxHeartbeats 1000000
namespace Wm
open PySem PySem.Spec PyProof.Rows L2 Sm
def enc : Wo → PV
  | none => .non
  | some (a, b) => .tup [.int a, .int b]
def encD : Wo → PyData
  | none => .none
  | some (a, b) => .tuple [.int a, .int b]
theorem dat_enc (st : Store) : ∀ x : Wo, dat st (enc x) = some (encD x)
  | none => rfl
  | some (a, b) => rfl
theorem shaped_int (i : Int) : SeqAt.shaped (.int i) = true := by rfl
theorem shaped_enc : ∀ x : Wo, SeqAt.shaped (encD x) = true
  | none => rfl
  | some (a, b) => by rfl
theorem eqv_int (i j : Int) : PyData.eqv (.int i) (.int j) = decide (i = j) := by
  unfold PyData.eqv
  rfl
theorem eqv_enc (x y : Wo) : PyData.eqv (encD x) (encD y) = decide (x = y) := by
  cases x with
  | none =>
    cases y with
    | none => unfold encD PyData.eqv; rfl
    | some y =>
      unfold encD PyData.eqv
      simp
  | some x =>
    cases y with
    | none =>
      unfold encD PyData.eqv
      simp
    | some y =>
      obtain ⟨a, b⟩ := x
      obtain ⟨c, d⟩ := y
      simp only [encD, PyData.eqv, PyData.eqvAll, Bool.and_true]
      apply Bool.eq_iff_iff.mpr
      simp
theorem oEq_ii (i j : Int) (st : Store) (P : Sm.PK) : oEq (.int i) (.int j) st P = P (.bl (decide (i = j))) st := by
  have e : oEq (.int i) (.int j) st P = (SeqAt.shaped (.int i) = true ∧ SeqAt.shaped (.int j) = true ∧ P (.bl (PyData.eqv (.int i) (.int j))) st) := rfl
  rw [e, shaped_int, shaped_int, eqv_int]
  simp
theorem oNe_ii (i j : Int) (st : Store) (P : Sm.PK) : oNe (.int i) (.int j) st P = P (.bl (!decide (i = j))) st := by
  have e : oNe (.int i) (.int j) st P = (SeqAt.shaped (.int i) = true ∧ SeqAt.shaped (.int j) = true ∧ P (.bl (!PyData.eqv (.int i) (.int j))) st) := rfl
  rw [e, shaped_int, shaped_int, eqv_int]
  simp
theorem oEq_enc (x y : Wo) (st : Store) (P : Sm.PK) : oEq (enc x) (enc y) st P = P (.bl (decide (x = y))) st := by
  unfold oEq
  rw [dat_enc, dat_enc]
  show (SeqAt.shaped (encD x) = true ∧ SeqAt.shaped (encD y) = true ∧ P (.bl (PyData.eqv (encD x) (encD y))) st) = _
  rw [shaped_enc, shaped_enc, eqv_enc]
  simp
theorem oNe_enc (x y : Wo) (st : Store) (P : Sm.PK) : oNe (enc x) (enc y) st P = P (.bl (!decide (x = y))) st := by
  unfold oNe
  rw [dat_enc, dat_enc]
  show (SeqAt.shaped (encD x) = true ∧ SeqAt.shaped (encD y) = true ∧ P (.bl (!PyData.eqv (encD x) (encD y))) st) = _
  rw [shaped_enc, shaped_enc, eqv_enc]
  simp
theorem oEq_tt (a b c d : Int) (st : Store) (P : Sm.PK) : oEq (.tup [.int a, .int b]) (.tup [.int c, .int d]) st P = P (.bl (decide ((a, b) = (c, d)))) st := by
  have := oEq_enc (some (a, b)) (some (c, d)) st P
  simp only [Option.some.injEq] at this
  exact this
theorem oNe_tt (a b c d : Int) (st : Store) (P : Sm.PK) : oNe (.tup [.int a, .int b]) (.tup [.int c, .int d]) st P = P (.bl (!decide ((a, b) = (c, d)))) st := by
  have := oNe_enc (some (a, b)) (some (c, d)) st P
  simp only [Option.some.injEq] at this
  exact this
theorem ten_odd (r f l : Nat) (h : l % 2 = 1) : r * f * (f * f) ^ (l / 2) = r * f ^ l := by
  have e : l = 2 * (l / 2) + 1 := by omega
  conv => rhs; rw [e]
  rw [Nat.pow_succ, Nat.pow_mul, Nat.pow_two]
  grind
theorem ten_even (r f l : Nat) (h : l % 2 = 0) : r * (f * f) ^ (l / 2) = r * f ^ l := by
  have e : l = 2 * (l / 2) := by omega
  conv => rhs; rw [e]
  rw [Nat.pow_mul, Nat.pow_two]
theorem b_of_le {x m : Nat} (h : x ≤ 10 ^ m) : B (4 * m + 1) (x : Int) := by
  have := b_ten m
  unfold B at *
  rw [Int.natAbs_natCast] at *
  omega
theorem atI_0 {α : Type} (a : α) (l : List α) : atI (a :: l) 0 = some a := by
  have h : ixN (a :: l).length 0 = some 0 := by
    unfold ixN
    rw [if_pos (by decide), if_pos (by simp only [List.length_cons]; omega)]
    rfl
  unfold atI
  rw [h]
  rfl
theorem atI_1 {α : Type} (a b : α) (l : List α) : atI (a :: b :: l) 1 = some b := by
  have h : ixN (a :: b :: l).length 1 = some 1 := by
    unfold ixN
    rw [if_pos (by decide), if_pos (by simp only [List.length_cons]; omega)]
    rfl
  unfold atI
  rw [h]
  rfl
theorem isNon_non : Sm.isNon .non = true := rfl
theorem isNon_tup (l : List PV) : Sm.isNon (.tup l) = false := rfl
theorem isNon_int (i : Int) : Sm.isNon (.int i) = false := rfl
theorem b_of {n : Nat} {i : Int} (h : i.natAbs < 2 ^ n) : B n i := h
end Wm
set_option Elab.async false
set_option linter.all false
set_option maxRecDepth 100000
set_option maxHeartbeats 1000000
namespace Cm
open PySem PySem.Spec PyProof.Rows L2 Sm Wm
/-- its type is told, and it is no long number -/
def plainB : PV → Bool
  | .int i => decide (Builtin.Int.intBits i ≤ 100000)
  | v => (tyName v).isSome
def fineB : PV → Bool
  | .tup l => l.all plainB
  | v => plainB v
def SzW (n : Nat) : Wo → Prop
  | none => True
  | some x => B n x.1 ∧ B n x.2
def letters : Str := "abcdefghijklmnopqrstuvwxyz"
def digs : Str := "0123456789"
def nameB : PV → Bool
  | .str s => decide (1 ≤ s.length) && decide (s.length ≤ 8) && (match s.cps.toList with | c :: _ => decide (c ∈ letters.cps.toList) | [] => false) && s.cps.toList.all fun c => decide (c ∈ letters.cps.toList) || decide (c ∈ digs.cps.toList)
  | _ => false
/-- the store, perhaps with more behind it -/
def Ext (st st' : Store) : Prop := ∃ e, st' = st ++ e
def S_ten_to (mg : Str → Option Value) : SpecF := fun pvs st Q PX => ∃ m : Nat, pvs = [.int m] ∧ m ≤ 4000 ∧ Q (.int ((10 ^ m : Nat) : Int)) st
def S_has_more_digits (mg : Str → Option Value) : SpecF := fun pvs st Q PX => ∃ (n : Int) (m : Nat), pvs = [.int n, .int m] ∧ m ≤ 4000 ∧ B 100000 n ∧ Q (.bl (decide (10 ^ m ≤ n.natAbs))) st
def fewB (m : Nat) : PV → Bool
  | .int i => !decide (10 ^ m ≤ i.natAbs)
  | _ => false
def S_is_integer_of (mg : Str → Option Value) : SpecF := fun pvs st Q PX => ∃ (v : PV) (m : Nat), pvs = [v, .int m] ∧ m ≤ 4000 ∧ plainB v = true ∧ Q (.bl (fewB m v)) st
def betB (a b : Int) : PV → Bool
  | .int i => decide (a ≤ i) && decide (i ≤ b)
  | _ => false
def S_is_between (mg : Str → Option Value) : SpecF := fun pvs st Q PX => ∃ (v : PV) (a b : Int), pvs = [v, .int a, .int b] ∧ (tyName v).isSome = true ∧ Q (.bl (betB a b v)) st
def S_is_name (mg : Str → Option Value) : SpecF := fun pvs st Q PX => ∃ v, pvs = [v] ∧ (tyName v).isSome = true ∧ (∀ s, v = .str s → s.length ≤ 1000) ∧ ∀ st', Ext st st' → Q (.bl (nameB v)) st'
def big : Int := 2 ^ 40
structure DiceI (k : Nat) (a b c : Int) : Prop where
  a0 : 0 ≤ a
  aB : B 2100 a
  b0 : 0 ≤ b
  bB : B 40 b
  c0 : 0 ≤ c
  cB : c + k ≤ big
def DiceAt (n k : Nat) (st : Store) : Prop := ∃ a b c : Int, st[n]? = some (.lst [.int a, .int b, .int c]) ∧ DiceI k a b c
/-- all but the dice stays, more may come -/
def Aft (n : Nat) (st st' : Store) : Prop := st.length ≤ st'.length ∧ ∀ j, j ≠ n → j < st.length → st'[j]? = st[j]?
def S__law_dice (mg : Str → Option Value) : SpecF := fun pvs st Q PX => ∃ (l : List Int) (i : Int), pvs = [.lst (l.map .int), .int i] ∧ 0 ≤ i ∧ i < 1000 ∧ (∀ x ∈ l, Builtin.Int.intBits x ≤ 1048576) ∧
  ∀ st', DiceAt st.length 100000 st' → Q (.hd st.length) st'
def S__law_roll (mg : Str → Option Value) : SpecF := fun pvs st Q PX => ∃ (n k : Nat) (t : Int), pvs = [.hd n, .int t] ∧ DiceAt n (k + 1) st ∧ 0 < t ∧ B 40 t ∧ ∀ (r : Int) (st' : Store), 0 ≤ r → r < t → DiceAt n k st' → Aft n st st' → Q (.int r) st'
def S__law_one_of (mg : Str → Option Value) : SpecF := fun pvs st Q PX => ∃ (n k : Nat) (l : List PV), pvs = [.hd n, .lst l] ∧ DiceAt n (k + 1) st ∧ l ≠ [] ∧ l.length ≤ 1000 ∧ ∀ v ∈ l, ∀ st', DiceAt n k st' → Aft n st st' → Q v st'
end Cm
set_option Elab.async false
set_option linter.all false
set_option maxRecDepth 100000
set_option maxHeartbeats 1000000
namespace Cm
open PySem PySem.Spec PyProof.Rows L2 Sm Wm
abbrev N_ten_to : List Str := ["many", "result", "factor", "left"]
theorem nd_ten_to : N_ten_to.Nodup := by decide +kernel
def t_ten_to (K : PySem.W.Frag) (mg : Str → Option Value) : SemS := (sSeq (sAsg (sC (.int 1)) 1) (sSeq (sAsg (sC (.int 10)) 2) (sSeq (sAsg (sVar 0) 3) (sSeq (sWhile (sTest (sOp oGt (sVar 3) (sC (.int 0)))) (sSeq (sIfS (sTest (sOp oEq (sOp oAnd (sVar 3) (sC (.int 1))) (sC (.int 1)))) (sAsg (sOp oMul (sVar 1) (sVar 2)) 1) sSkip) (sSeq (sAsg (sOp oMul (sVar 2) (sVar 2)) 2) (sAsg (sOp oShr (sVar 3) (sC (.int 1))) 3)))) (sRet (sVar 1))))))
abbrev N_has_more_digits : List Str := ["number", "many", "bits"]
theorem nd_has_more_digits : N_has_more_digits.Nodup := by decide +kernel
def t_has_more_digits (K : PySem.W.Frag) (mg : Str → Option Value) : SemS := (sSeq (sAsg (sBits (sVar 0)) 2) (sSeq (sIfS (sTest (sOp oLe (sOp oMul (sVar 2) (sC (.int 1000))) (sOp oMul (sVar 1) (sC (.int 3321))))) (sRet (sC (.bl false))) sSkip) (sSeq (sIfS (sTest (sOp oGe (sOp oMul (sOp oSub (sVar 2) (sC (.int 1))) (sC (.int 1000))) (sOp oMul (sVar 1) (sC (.int 3322))))) (sRet (sC (.bl true))) sSkip) (sRet (sOp oGe (sCB oAbs (sCons (sVar 0) sNil)) (sCall (S_ten_to mg) [] (sCons (sVar 1) sNil)))))))
abbrev N_is_integer_of : List Str := ["value", "many"]
theorem nd_is_integer_of : N_is_integer_of.Nodup := by decide +kernel
def t_is_integer_of (K : PySem.W.Frag) (mg : Str → Option Value) : SemS := (sRet (sAnd (sOp (oIs false) (sCB oType (sCons (sVar 0) sNil)) (sC (.ty "int"))) (sNot (sCall (S_has_more_digits mg) [] (sCons (sVar 0) (sCons (sVar 1) sNil))))))
abbrev N_is_between : List Str := ["value", "least", "most"]
theorem nd_is_between : N_is_between.Nodup := by decide +kernel
def t_is_between (K : PySem.W.Frag) (mg : Str → Option Value) : SemS := (sRet (sAnd (sOp (oIs false) (sCB oType (sCons (sVar 0) sNil)) (sC (.ty "int"))) (sChain oLe oLe (sVar 1) (sVar 0) (sVar 2))))
abbrev N_is_name : List Str := ["value", "sign"]
theorem nd_is_name : N_is_name.Nodup := by decide +kernel
def t_is_name (K : PySem.W.Frag) (mg : Str → Option Value) : SemS := (sSeq (sIfS (sOrT (sTest (sOp (oIs true) (sCB oType (sCons (sVar 0) sNil)) (sC (.ty "str")))) (sNotT (sTest (sChain oLe oLe (sC (.int 1)) (sCB oLen (sCons (sVar 0) sNil)) (sC (.int 8)))))) (sRet (sC (.bl false))) sSkip) (sRet (sAnd (sOp (oInS false) (sOp oIx (sVar 0) (sC (.int 0))) (sC (.str "abcdefghijklmnopqrstuvwxyz"))) (sCB oAllH (sCons (sLc itemsS (sVar 0) 1 sYes (sOr (sOp (oInS false) (sVar 1) (sC (.str "abcdefghijklmnopqrstuvwxyz"))) (sOp (oInS false) (sVar 1) (sC (.str "0123456789"))))) sNil)))))
abbrev N__law_dice : List Str := ["_law_script", "_law_at", "_law_cell", "_law_great", "_law_left", "_law_mixed"]
theorem nd__law_dice : N__law_dice.Nodup := by decide +kernel
def t__law_dice (K : PySem.W.Frag) (mg : Str → Option Value) : SemS := (sSeq (sAsg (sOp oAdd (sOp oMul (sC (.int 89)) (sVar 1)) (sC (.int 61))) 2) (sSeq (sIfS (sTest (sOp oLt (sVar 1) (sCB oLen (sCons (sVar 0) sNil)))) (sAsg (sOp oIx (sVar 0) (sVar 1)) 2) sSkip) (sSeq (sAsg (sOp oMod (sCB oInt (sCons (sCB oAbs (sCons (sVar 2) sNil)) sNil)) (sOp oPow (sOp oPow (sC (.int 10)) (sC (.int 60))) (sC (.int 10)))) 3) (sSeq (sAsg (sOp oDiv (sVar 3) (sOp oPow (sC (.int 10)) (sC (.int 18)))) 4) (sSeq (sAsg (sOp oAdd (sOp oAdd (sOp oAdd (sOp oMul (sOp oMod (sVar 3) (sC (.int 2147482763))) (sC (.int 60497))) (sOp oMul (sC (.int 3511)) (sVar 1))) (sOp oMul (sC (.int 79)) (sCB oInt (sCons (sOp oLt (sVar 2) (sC (.int 0))) sNil)))) (sC (.int 103))) 5) (sRet (sNew (sCons (sVar 4) (sCons (sOp oMod (sVar 5) (sC (.int 2147482739))) (sCons (sC (.int 0)) sNil))))))))))
abbrev N__law_roll : List Str := ["_law_dice_here", "_law_total", "_law_size", "_law_one", "_law_two", "_law_drawn"]
theorem nd__law_roll : N__law_roll.Nodup := by decide +kernel
def t__law_roll (K : PySem.W.Frag) (mg : Str → Option Value) : SemS := (sSeq (sAsg (sCB oInt (sCons (sVar 1) sNil)) 2) (sSeq (sIfS (sTest (sOp oGt (sOp oIx (sVar 0) (sC (.int 0))) (sC (.int 0)))) (sSeq (sAsg (sOp oMod (sOp oIx (sVar 0) (sC (.int 0))) (sVar 2)) 5) (sSeq (sSetIx (sOp oDiv (sOp oIx (sVar 0) (sC (.int 0))) (sVar 2)) (sVar 0) (sC (.int 0))) (sRet (sCB oInt (sCons (sVar 5) sNil))))) sSkip) (sSeq (sSetIx (sOp oAdd (sOp oIx (sVar 0) (sC (.int 2))) (sC (.int 1))) (sVar 0) (sC (.int 2))) (sSeq (sAsg (sOp oMod (sOp oAdd (sOp oIx (sVar 0) (sC (.int 1))) (sOp oMul (sC (.int 1000381)) (sOp oIx (sVar 0) (sC (.int 2))))) (sC (.int 2305843009213693951))) 3) (sSeq (sAsg (sOp oAdd (sOp oMul (sOp oMod (sOp oMul (sVar 3) (sVar 3)) (sC (.int 2305843009213693921))) (sVar 3)) (sOp oMul (sC (.int 9497)) (sOp oIx (sVar 0) (sC (.int 2))))) 4) (sSeq (sAsg (sOp oMod (sVar 4) (sC (.int 2305843009213693907))) 4) (sRet (sCB oInt (sCons (sOp oMod (sOp oDiv (sVar 4) (sC (.int 4096))) (sVar 2)) sNil)))))))))
abbrev N__law_one_of : List Str := ["_law_dice_here", "_law_items"]
theorem nd__law_one_of : N__law_one_of.Nodup := by decide +kernel
def t__law_one_of (K : PySem.W.Frag) (mg : Str → Option Value) : SemS := (sRet (sOp oIx (sVar 1) (sCall (S__law_roll mg) [] (sCons (sVar 0) (sCons (sCB oLen (sCons (sVar 1) sNil)) sNil)))))
end Cm
set_option Elab.async false
set_option linter.all false
set_option maxRecDepth 100000
set_option maxHeartbeats 1000000
namespace Cm
open PySem PySem.Spec PyProof.Rows L2 Sm Wm
section
variable {K : PySem.W.Frag} {mg : Str → Option Value}
theorem p_has_more_digits : ∀ pvs st Q PX, S_has_more_digits mg pvs st Q PX → t_has_more_digits K mg (endOf Q PX) (ini N_has_more_digits pvs) st := by
  rintro pvs st Q PX ⟨n, m, rfl, hm, hn, hq⟩
  have hb := bits_le hn
  have eA : ((if n < 0 then -n else n)) = (n.natAbs : Int) := by split <;> omega
  have hB : B 20 (Builtin.Int.intBits n : Int) := by
    unfold B
    omega
  have hM : B 20 (m : Int) := by
    unfold B
    omega
  simp only [t_has_more_digits, sRet, sSeq, sAsg, sIfS, sSkip, sPar, sAsgG, sDrop, sRaise, sOp, sCB, sCons, sNil, sVar, sC, sTup, sLst, sNew, sNeg, sNot, sTest, sNotT, sAndT, sOrT, sAnd, sOr, sIf, sChain, sBits, sCall, ini, endOf, kName, kTup2, oAdd, oI, oI0, oIs, isNon_non, isNon_tup, isNon_int, oIx, oLen, oAbs, oInt, oGcd, oType, oEq_ii, oNe_ii, oEq_enc, oNe_enc, oEq_tt, oNe_tt, atI_0, atI_1, List.map_cons, List.map_nil, List.length_cons, List.length_nil, List.cons_append, List.nil_append, List.append_nil, List.replicate_succ, List.replicate_zero, List.getElem?_cons_zero, List.getElem?_cons_succ, List.set_cons_zero, List.set_cons_succ, Bool.false_eq_true, decide_true, decide_false, Bool.not_true, Bool.not_false, ↓reduceIte, Nat.reduceAdd, Nat.reduceSub, Nat.zero_add, Option.isSome]
  refine ⟨cmul hB (n := 20) (b_of (by decide)) (by decide), cmul hM (n := 20) (b_of (by decide)) (by decide), ?_⟩
  by_cases h1 : (Builtin.Int.intBits n : Int) * 1000 ≤ (m : Int) * 3321
  · have h2 := few_bits (n := n) (m := m) (by omega)
    rw [decide_eq_true h1]
    have e : decide (10 ^ m ≤ n.natAbs) = false := by
      apply decide_eq_false
      omega
    rw [e] at hq
    exact hq
  · rw [decide_eq_false h1]
    have hC : B 20 ((Builtin.Int.intBits n : Int) - 1) := by
      unfold B
      omega
    refine ⟨cmul hC (n := 20) (b_of (by decide)) (by decide), cmul hM (n := 20) (b_of (by decide)) (by decide), ?_⟩
    by_cases h2 : (m : Int) * 3322 ≤ ((Builtin.Int.intBits n : Int) - 1) * 1000
    · rw [decide_eq_true h2]
      have h0 : n ≠ 0 := by
        intro z
        subst z
        have : Builtin.Int.intBits 0 = 0 := rfl
        omega
      have h3 := many_bits (n := n) (m := m) (by omega) h0
      rw [decide_eq_true h3] at hq
      exact hq
    · rw [decide_eq_false h2]
      refine ⟨m, rfl, hm, ?_⟩
      show Q (.bl (decide (((10 ^ m : Nat) : Int) ≤ _))) st
      rw [eA]
      have e : decide (((10 ^ m : Nat) : Int) ≤ (n.natAbs : Int)) = decide (10 ^ m ≤ n.natAbs) := by
        apply Bool.eq_iff_iff.mpr
        simp only [decide_eq_true_eq]
        omega
      rw [e]
      exact hq
theorem p_ten_to : ∀ pvs st Q PX, S_ten_to mg pvs st Q PX → t_ten_to K mg (endOf Q PX) (ini N_ten_to pvs) st := by
  rintro pvs st Q PX ⟨m, rfl, hm, hq⟩
  simp only [t_ten_to, sWhile, sRet, sSeq, sAsg, sIfS, sSkip, sPar, sAsgG, sDrop, sRaise, sOp, sCB, sCons, sNil, sVar, sC, sTup, sLst, sNew, sNeg, sNot, sTest, sNotT, sAndT, sOrT, sAnd, sOr, sIf, sChain, sBits, sCall, ini, endOf, kName, kTup2, oAdd, oI, oI0, oIs, isNon_non, isNon_tup, isNon_int, oIx, oLen, oAbs, oInt, oGcd, oType, oEq_ii, oNe_ii, oEq_enc, oNe_enc, oEq_tt, oNe_tt, atI_0, atI_1, List.map_cons, List.map_nil, List.length_cons, List.length_nil, List.cons_append, List.nil_append, List.append_nil, List.replicate_succ, List.replicate_zero, List.getElem?_cons_zero, List.getElem?_cons_succ, List.set_cons_zero, List.set_cons_succ, Bool.false_eq_true, decide_true, decide_false, Bool.not_true, Bool.not_false, ↓reduceIte, Nat.reduceAdd, Nat.reduceSub, Nat.zero_add, Option.isSome]
  refine ⟨fun n ρ s => ∃ r f : Nat, ρ = [some (.int m), some (.int r), some (.int f), some (.int n)] ∧ s = st ∧ r * f ^ n = 10 ^ m ∧ 0 < r ∧ 0 < f, ⟨m, 1, 10, rfl, rfl, by simp, by decide, by decide⟩, ?_⟩
  rintro n ρ s ⟨r, f, rfl, rfl, hrf, hr, hf⟩
  simp only [sRet, sSeq, sAsg, sIfS, sSkip, sPar, sAsgG, sDrop, sRaise, sOp, sCB, sCons, sNil, sVar, sC, sTup, sLst, sNew, sNeg, sNot, sTest, sNotT, sAndT, sOrT, sAnd, sOr, sIf, sChain, sBits, sCall, ini, endOf, kName, kTup2, oAdd, oI, oI0, oIs, isNon_non, isNon_tup, isNon_int, oIx, oLen, oAbs, oInt, oGcd, oType, oEq_ii, oNe_ii, oEq_enc, oNe_enc, oEq_tt, oNe_tt, atI_0, atI_1, List.map_cons, List.map_nil, List.length_cons, List.length_nil, List.cons_append, List.nil_append, List.append_nil, List.replicate_succ, List.replicate_zero, List.getElem?_cons_zero, List.getElem?_cons_succ, List.set_cons_zero, List.set_cons_succ, Bool.false_eq_true, decide_true, decide_false, Bool.not_true, Bool.not_false, ↓reduceIte, Nat.reduceAdd, Nat.reduceSub, Nat.zero_add, Option.isSome]
  by_cases h0 : (0 : Int) < (n : Int)
  · rw [decide_eq_true h0]
    have hfn : f ≤ f ^ n := by
      have := Nat.pow_le_pow_right hf (show 1 ≤ n by omega)
      simpa using this
    have h1 : f ^ n ≤ 10 ^ m := by
      rw [← hrf]
      exact Nat.le_mul_of_pos_left _ hr
    have h2 : r ≤ 10 ^ m := by
      rw [← hrf]
      exact Nat.le_mul_of_pos_right _ (Nat.pow_pos hf)
    have bf := b_of_le (Nat.le_trans hfn h1)
    have br := b_of_le h2
    have c2 := cmul bf bf (by omega)
    have e2 : (n : Int) / 2 ^ Int.toNat 1 = ((n / 2 : Nat) : Int) := by
      show (n : Int) / 2 = _
      omega
    rw [bitAnd_m1, e2]
    by_cases h3 : (n : Int) % 2 = 1
    · rw [decide_eq_true h3]
      exact ⟨cmul br bf (by omega), c2, by decide, n / 2, by omega, r * f, f * f, by simp, trivial, by rw [ten_odd r f n (by omega)]; exact hrf, Nat.mul_pos hr hf, Nat.mul_pos hf hf⟩
    · rw [decide_eq_false h3]
      exact ⟨c2, by decide, n / 2, by omega, r, f * f, by simp, trivial, by rw [ten_even r f n (by omega)]; exact hrf, hr, Nat.mul_pos hf hf⟩
  · rw [decide_eq_false h0]
    have hn : n = 0 := by omega
    subst hn
    rw [Nat.pow_zero, Nat.mul_one] at hrf
    show Q (.int (r : Int)) s
    rw [hrf]
    exact hq
end
end Cm
set_option Elab.async false
set_option linter.all false
set_option maxRecDepth 100000
set_option maxHeartbeats 1000000
namespace Cm
open PySem PySem.Spec PyProof.Rows L2 Sm Wm
section
variable {K : PySem.W.Frag} {mg : Str → Option Value}
theorem plain_ty {v : PV} (h : plainB v = true) : (tyName v).isSome = true := by
  cases v <;> first | exact h | rfl
theorem b_bits {i : Int} {n : Nat} (h : Builtin.Int.intBits i ≤ n) : B n i := Nat.lt_of_lt_of_le (bits_hi i) (Nat.pow_le_pow_right (by decide) h)
theorem plain_sz {i : Int} (h : plainB (.int i) = true) : B 100000 i := b_bits (of_decide_eq_true h)
theorem p_is_integer_of : ∀ pvs st Q PX, S_is_integer_of mg pvs st Q PX → t_is_integer_of K mg (endOf Q PX) (ini N_is_integer_of pvs) st := by
  rintro pvs st Q PX ⟨v, m, rfl, hm, hv, hq⟩
  have h1 := plain_ty hv
  cases v <;> first | exact (Bool.noConfusion h1) | skip
  case int i =>
    simp only [t_is_integer_of, tyName, sRet, sSeq, sAsg, sIfS, sSkip, sPar, sAsgG, sDrop, sRaise, sOp, sCB, sCons, sNil, sVar, sC, sTup, sLst, sNew, sNeg, sNot, sTest, sNotT, sAndT, sOrT, sAnd, sOr, sIf, sChain, sBits, sCall, ini, endOf, kName, kTup2, oAdd, oI, oI0, oIs, isNon_non, isNon_tup, isNon_int, oIx, oLen, oAbs, oInt, oGcd, oType, oEq_ii, oNe_ii, oEq_enc, oNe_enc, oEq_tt, oNe_tt, atI_0, atI_1, List.map_cons, List.map_nil, List.length_cons, List.length_nil, List.cons_append, List.nil_append, List.append_nil, List.replicate_succ, List.replicate_zero, List.getElem?_cons_zero, List.getElem?_cons_succ, List.set_cons_zero, List.set_cons_succ, Bool.false_eq_true, decide_true, decide_false, Bool.not_true, Bool.not_false, ↓reduceIte, Nat.reduceAdd, Nat.reduceSub, Nat.zero_add, Option.isSome]
    exact ⟨i, m, rfl, hm, plain_sz hv, hq⟩
  all_goals exact hq
theorem p_is_between : ∀ pvs st Q PX, S_is_between mg pvs st Q PX → t_is_between K mg (endOf Q PX) (ini N_is_between pvs) st := by
  rintro pvs st Q PX ⟨v, a, b, rfl, h1, hq⟩
  cases v <;> first | exact (Bool.noConfusion h1) | skip
  case int i =>
    simp only [t_is_between, tyName, sRet, sSeq, sAsg, sIfS, sSkip, sPar, sAsgG, sDrop, sRaise, sOp, sCB, sCons, sNil, sVar, sC, sTup, sLst, sNew, sNeg, sNot, sTest, sNotT, sAndT, sOrT, sAnd, sOr, sIf, sChain, sBits, sCall, ini, endOf, kName, kTup2, oAdd, oI, oI0, oIs, isNon_non, isNon_tup, isNon_int, oIx, oLen, oAbs, oInt, oGcd, oType, oEq_ii, oNe_ii, oEq_enc, oNe_enc, oEq_tt, oNe_tt, atI_0, atI_1, List.map_cons, List.map_nil, List.length_cons, List.length_nil, List.cons_append, List.nil_append, List.append_nil, List.replicate_succ, List.replicate_zero, List.getElem?_cons_zero, List.getElem?_cons_succ, List.set_cons_zero, List.set_cons_succ, Bool.false_eq_true, decide_true, decide_false, Bool.not_true, Bool.not_false, ↓reduceIte, Nat.reduceAdd, Nat.reduceSub, Nat.zero_add, Option.isSome]
    simp only [betB] at hq
    by_cases h : a ≤ i
    · rw [decide_eq_true h] at hq ⊢
      exact hq
    · rw [decide_eq_false h] at hq ⊢
      exact hq
  all_goals exact hq
end
end Cm
set_option Elab.async false
set_option linter.all false
set_option maxRecDepth 100000
set_option maxHeartbeats 1000000
namespace Cm
open PySem PySem.Spec PyProof.Rows L2 Sm Wm
section
variable {K : PySem.W.Frag} {mg : Str → Option Value}
theorem len2 (n : Nat) : decide (((n + 1 + 1 + 1 : Nat) : Int) = 2) = false := by
  apply decide_eq_false
  omega
end
end Cm
set_option Elab.async false
set_option linter.all false
set_option maxRecDepth 100000
set_option maxHeartbeats 1000000
namespace Cm
open PySem PySem.Spec PyProof.Rows L2 Sm Wm
section
variable {K : PySem.W.Frag} {mg : Str → Option Value}
theorem SzW.mono {n m : Nat} {x : Wo} (h : SzW n x) (hm : n ≤ m) : SzW m x := by
  cases x with
  | none => trivial
  | some x => exact ⟨h.1.mono hm, h.2.mono hm⟩
end
end Cm
set_option Elab.async false
set_option linter.all false
set_option maxRecDepth 100000
set_option maxHeartbeats 1000000
namespace Cm
open PySem PySem.Spec PyProof.Rows L2 Sm Wm
section
variable {K : PySem.W.Frag} {mg : Str → Option Value}
theorem comp_bools {i n : Nat} {f : Sem} {ρ : Sm.Env} {P : Sm.PK} (g : PV → Bool) : ∀ (l acc : List PV) (st : Store), st[n]? = some (.lst acc) → acc.length + l.length < 100000 →
    (∀ x ∈ l, ∀ (st : Store) (P : Sm.PK) (PX : Sm.XP), P (.bl (g x)) st → f (ρ.set i (some x)) st P PX) → P (.hd n) (st.set n (.lst (acc ++ l.map fun x => .bl (g x)))) → compL i n sYes f P l ρ st
  | [], acc, st, hn, hl, hf, hp => by
    have hlt := (List.getElem?_eq_some_iff.mp hn).1
    rw [List.map_nil, List.append_nil] at hp
    have e : st.set n (.lst acc) = st := by
      apply List.ext_getElem?
      intro j
      by_cases hj : n = j
      · subst hj
        rw [List.getElem?_set_self hlt, hn]
      · rw [List.getElem?_set_ne hj]
    rw [e] at hp
    exact hp
  | x :: l, acc, st, hn, hl, hf, hp => by
    have hlt := (List.getElem?_eq_some_iff.mp hn).1
    simp only [List.length_cons] at hl
    refine hf x List.mem_cons_self st _ _ ?_
    simp only [hn]
    refine ⟨by omega, comp_bools g l (acc ++ [.bl (g x)]) _ (by rw [List.getElem?_set_self hlt]) (by simp only [List.length_append, List.length_cons, List.length_nil]; omega) (fun y hy => hf y (List.mem_cons_of_mem _ hy)) ?_⟩
    rw [List.set_set, List.append_assoc]
    exact hp
theorem allB_map (g : PV → Bool) : ∀ l : List PV, Sm.allB (l.map fun x => .bl (g x)) = some (l.all g)
  | [] => rfl
  | x :: l => by
    simp only [List.map_cons, Sm.allB, allB_map g l, Option.map_some, List.all_cons]
theorem set_end (st : Store) (o o' : Ob) : (st ++ [o]).set st.length o' = st ++ [o'] := by
  rw [List.set_append_right _ _ (Nat.le_refl _), Nat.sub_self]
  rfl
theorem get_end (st : Store) (o : Ob) : (st ++ [o])[st.length]? = some o := by
  rw [List.getElem?_append_right (Nat.le_refl _), Nat.sub_self]
  rfl
end
end Cm
set_option Elab.async false
set_option linter.all false
set_option maxRecDepth 100000
set_option maxHeartbeats 1000000
namespace Cm
open PySem PySem.Spec PyProof.Rows L2 Sm Wm
section
variable {K : PySem.W.Frag} {mg : Str → Option Value}
def signB : PV → Bool
  | .str s => (match s.cps.toList with
    | [c] => decide (c ∈ letters.cps.toList) || decide (c ∈ digs.cps.toList)
    | _ => false)
  | _ => false
theorem sign_all (s : Str) : (signsOf s).all signB = s.cps.toList.all fun c => decide (c ∈ letters.cps.toList) || decide (c ∈ digs.cps.toList) := by
  unfold signsOf
  rw [List.all_map]
  rfl
theorem p_is_name : ∀ pvs st Q PX, S_is_name mg pvs st Q PX → t_is_name K mg (endOf Q PX) (ini N_is_name pvs) st := by
  rintro pvs st Q PX ⟨v, rfl, ht, hlen, hq⟩
  have e0 : Ext st st := ⟨[], by simp⟩
  cases v <;> first | exact (Bool.noConfusion ht) | skip
  case str s =>
    have hs := hlen s rfl
    have hc : s.length = s.cps.size := rfl
    simp only [t_is_name, tyName, sRet, sSeq, sAsg, sIfS, sSkip, sPar, sAsgG, sDrop, sRaise, sOp, sCB, sCons, sNil, sVar, sC, sTup, sLst, sNew, sNeg, sNot, sTest, sNotT, sAndT, sOrT, sAnd, sOr, sIf, sChain, sBits, sCall, ini, endOf, kName, kTup2, oAdd, oI, oI0, oIs, isNon_non, isNon_tup, isNon_int, oIx, oLen, oAbs, oInt, oGcd, oType, oEq_ii, oNe_ii, oEq_enc, oNe_enc, oEq_tt, oNe_tt, atI_0, atI_1, List.map_cons, List.map_nil, List.length_cons, List.length_nil, List.cons_append, List.nil_append, List.append_nil, List.replicate_succ, List.replicate_zero, List.getElem?_cons_zero, List.getElem?_cons_succ, List.set_cons_zero, List.set_cons_succ, Bool.false_eq_true, decide_true, decide_false, Bool.not_true, Bool.not_false, ↓reduceIte, Nat.reduceAdd, Nat.reduceSub, Nat.zero_add, Option.isSome]
    refine ⟨by omega, ?_⟩
    by_cases h1 : (1 : Int) ≤ (s.length : Int)
    · rw [decide_eq_true h1]
      dsimp only
      by_cases h2 : (s.length : Int) ≤ 8
      · rw [decide_eq_true h2]
        refine ⟨by omega, ?_⟩
        have e1 : decide (1 ≤ s.length) = true := decide_eq_true (by omega)
        have e2 : decide (s.length ≤ 8) = true := decide_eq_true (by omega)
        cases hl : s.cps.toList with
        | nil =>
          have : s.cps.toList.length = 0 := by rw [hl]; rfl
          simp only [Array.length_toList] at this
          omega
        | cons c r =>
          simp only [sRet, sSeq, sAsg, sIfS, sSkip, sPar, sAsgG, sDrop, sRaise, sOp, sCB, sCons, sNil, sVar, sC, sTup, sLst, sNew, sNeg, sNot, sTest, sNotT, sAndT, sOrT, sAnd, sOr, sIf, sChain, sBits, sCall, ini, endOf, kName, kTup2, oAdd, oI, oI0, oIs, isNon_non, isNon_tup, isNon_int, oIx, oLen, oAbs, oInt, oGcd, oType, oEq_ii, oNe_ii, oEq_enc, oNe_enc, oEq_tt, oNe_tt, atI_0, atI_1, List.map_cons, List.map_nil, List.length_cons, List.length_nil, List.cons_append, List.nil_append, List.append_nil, List.replicate_succ, List.replicate_zero, List.getElem?_cons_zero, List.getElem?_cons_succ, List.set_cons_zero, List.set_cons_succ, Bool.false_eq_true, decide_true, decide_false, Bool.not_true, Bool.not_false, ↓reduceIte, Nat.reduceAdd, Nat.reduceSub, Nat.zero_add, Option.isSome]
          refine ⟨c, rfl, ?_⟩
          have el : (("abcdefghijklmnopqrstuvwxyz" : Str)) = letters := rfl
          have ed : (("0123456789" : Str)) = digs := rfl
          simp only [el, ed]
          simp only [nameB, e1, e2, Bool.true_and, hl] at hq
          cases h3 : decide (c ∈ letters.cps.toList) with
          | false =>
            have := hq st e0
            rw [h3] at this
            exact this
          | true =>
            simp only [sLc, itemsS, wipeE, sRet, sSeq, sAsg, sIfS, sSkip, sPar, sAsgG, sDrop, sRaise, sOp, sCB, sCons, sNil, sVar, sC, sTup, sLst, sNew, sNeg, sNot, sTest, sNotT, sAndT, sOrT, sAnd, sOr, sIf, sChain, sBits, sCall, ini, endOf, kName, kTup2, oAdd, oI, oI0, oIs, isNon_non, isNon_tup, isNon_int, oIx, oLen, oAbs, oInt, oGcd, oType, oEq_ii, oNe_ii, oEq_enc, oNe_enc, oEq_tt, oNe_tt, atI_0, atI_1, List.map_cons, List.map_nil, List.length_cons, List.length_nil, List.cons_append, List.nil_append, List.append_nil, List.replicate_succ, List.replicate_zero, List.getElem?_cons_zero, List.getElem?_cons_succ, List.set_cons_zero, List.set_cons_succ, Bool.false_eq_true, decide_true, decide_false, Bool.not_true, Bool.not_false, ↓reduceIte, Nat.reduceAdd, Nat.reduceSub, Nat.zero_add, Option.isSome]
            refine comp_bools signB (signsOf s) [] _ (get_end st _) (by simp [signsOf]; omega) (fun x hx st P PX hp => ?_) ?_
            · obtain ⟨cc, _, rfl⟩ := List.mem_map.mp hx
              simp only [sRet, sSeq, sAsg, sIfS, sSkip, sPar, sAsgG, sDrop, sRaise, sOp, sCB, sCons, sNil, sVar, sC, sTup, sLst, sNew, sNeg, sNot, sTest, sNotT, sAndT, sOrT, sAnd, sOr, sIf, sChain, sBits, sCall, ini, endOf, kName, kTup2, oAdd, oI, oI0, oIs, isNon_non, isNon_tup, isNon_int, oIx, oLen, oAbs, oInt, oGcd, oType, oEq_ii, oNe_ii, oEq_enc, oNe_enc, oEq_tt, oNe_tt, atI_0, atI_1, List.map_cons, List.map_nil, List.length_cons, List.length_nil, List.cons_append, List.nil_append, List.append_nil, List.replicate_succ, List.replicate_zero, List.getElem?_cons_zero, List.getElem?_cons_succ, List.set_cons_zero, List.set_cons_succ, Bool.false_eq_true, decide_true, decide_false, Bool.not_true, Bool.not_false, ↓reduceIte, Nat.reduceAdd, Nat.reduceSub, Nat.zero_add, Option.isSome]
              refine ⟨cc, rfl, ?_⟩
              have hp' : P (.bl (decide (cc ∈ letters.cps.toList) || decide (cc ∈ digs.cps.toList))) st := hp
              simp only [Bool.false_eq_true, ↓reduceIte]
              cases h4 : decide (cc ∈ letters.cps.toList) with
              | true =>
                rw [h4] at hp'
                exact hp'
              | false =>
                rw [h4] at hp'
                exact ⟨cc, rfl, hp'⟩
            · rw [set_end]
              simp only [oAllH, get_end, List.nil_append, allB_map, sRet, sSeq, sAsg, sIfS, sSkip, sPar, sAsgG, sDrop, sRaise, sOp, sCB, sCons, sNil, sVar, sC, sTup, sLst, sNew, sNeg, sNot, sTest, sNotT, sAndT, sOrT, sAnd, sOr, sIf, sChain, sBits, sCall, ini, endOf, kName, kTup2, oAdd, oI, oI0, oIs, isNon_non, isNon_tup, isNon_int, oIx, oLen, oAbs, oInt, oGcd, oType, oEq_ii, oNe_ii, oEq_enc, oNe_enc, oEq_tt, oNe_tt, atI_0, atI_1, List.map_cons, List.map_nil, List.length_cons, List.length_nil, List.cons_append, List.nil_append, List.append_nil, List.replicate_succ, List.replicate_zero, List.getElem?_cons_zero, List.getElem?_cons_succ, List.set_cons_zero, List.set_cons_succ, Bool.false_eq_true, decide_true, decide_false, Bool.not_true, Bool.not_false, ↓reduceIte, Nat.reduceAdd, Nat.reduceSub, Nat.zero_add, Option.isSome]
              have := hq _ (show Ext st (st ++ [Ob.lst ((signsOf s).map fun x => .bl (signB x))]) from ⟨_, rfl⟩)
              rw [h3, ← hl] at this
              rw [sign_all]
              exact this
      · rw [decide_eq_false h2]
        have e2 : decide (s.length ≤ 8) = false := decide_eq_false (by omega)
        have := hq st e0
        simp only [nameB, e2, Bool.and_false, Bool.false_and] at this
        exact this
    · rw [decide_eq_false h1]
      have e2 : decide (1 ≤ s.length) = false := decide_eq_false (by omega)
      have := hq st e0
      simp only [nameB, e2, Bool.false_and] at this
      exact this
  all_goals exact hq st e0
end
end Cm
set_option Elab.async false
set_option linter.all false
set_option maxRecDepth 100000
set_option maxHeartbeats 1000000
namespace Cm
open PySem PySem.Spec PyProof.Rows L2 Sm Wm
section
variable {K : PySem.W.Frag} {mg : Str → Option Value}
theorem ixN3_0 : ixN 3 0 = some 0 := rfl
theorem ixN3_2 : ixN 3 2 = some 2 := rfl
theorem atI_2 {α : Type} (a b c : α) (l : List α) : atI (a :: b :: c :: l) 2 = some c := by
  have h : ixN (a :: b :: c :: l).length 2 = some 2 := by
    unfold ixN
    rw [if_pos (by decide), if_pos (by simp only [List.length_cons]; omega)]
    rfl
  unfold atI
  rw [h]
  rfl
theorem get_lt {st : Store} {n : Nat} {o : Ob} (h : st[n]? = some o) : n < st.length := (List.getElem?_eq_some_iff.mp h).1
theorem aft_set (n : Nat) (st : Store) (o : Ob) : Aft n st (st.set n o) := ⟨by simp, fun j hj _ => List.getElem?_set_ne (Ne.symm hj)⟩
theorem Aft.trans {n : Nat} {a b c : Store} (h : Aft n a b) (h' : Aft n b c) : Aft n a c := ⟨Nat.le_trans h.1 h'.1, fun j hj hl => (h'.2 j hj (Nat.lt_of_lt_of_le hl h.1)).trans (h.2 j hj hl)⟩
theorem fmod_pos {i t : Int} (ht : 0 < t) : 0 ≤ i.fmod t ∧ i.fmod t < t := ⟨Int.fmod_nonneg_of_pos i ht, Int.fmod_lt_of_pos i ht⟩
theorem b_lt {n : Nat} {i : Int} (h0 : 0 ≤ i) (h : i < 2 ^ n) : B n i := by
  unfold B
  have e : ((2 ^ n : Nat) : Int) = 2 ^ n := by simp
  omega
theorem b_fdiv {n : Nat} {a t : Int} (ha : 0 ≤ a) (h : B n a) (ht : 0 < t) : 0 ≤ a.fdiv t ∧ B n (a.fdiv t) := by
  have h1 : 0 ≤ a.fdiv t := Int.fdiv_nonneg ha (Int.le_of_lt ht)
  refine ⟨h1, ?_⟩
  have h2 : a.fdiv t ≤ a := by
    rw [Int.fdiv_eq_ediv_of_nonneg _ (Int.le_of_lt ht)]
    exact Int.ediv_le_self _ ha
  unfold B at *
  omega
theorem cmod {i t : Int} (h : 0 < t) : CMod i t := by
  show t ≠ 0
  omega
theorem p__law_roll : ∀ pvs st Q PX, S__law_roll mg pvs st Q PX → t__law_roll K mg (endOf Q PX) (ini N__law_roll pvs) st := by
  rintro pvs st Q PX ⟨n, k, t, rfl, ⟨a, b, c, hn, hI⟩, ht, tB, hq⟩
  have hl := get_lt hn
  have hI' := hI.cB
  unfold big at hI'
  simp only [t__law_roll, sSetIx, hn, sRet, sSeq, sAsg, sIfS, sSkip, sPar, sAsgG, sDrop, sRaise, sOp, sCB, sCons, sNil, sVar, sC, sTup, sLst, sNew, sNeg, sNot, sTest, sNotT, sAndT, sOrT, sAnd, sOr, sIf, sChain, sBits, sCall, ini, endOf, kName, kTup2, oAdd, oI, oI0, oIs, isNon_non, isNon_tup, isNon_int, oIx, oLen, oAbs, oInt, oGcd, oType, oEq_ii, oNe_ii, oEq_enc, oNe_enc, oEq_tt, oNe_tt, atI_0, atI_1, List.map_cons, List.map_nil, List.length_cons, List.length_nil, List.cons_append, List.nil_append, List.append_nil, List.replicate_succ, List.replicate_zero, List.getElem?_cons_zero, List.getElem?_cons_succ, List.set_cons_zero, List.set_cons_succ, Bool.false_eq_true, decide_true, decide_false, Bool.not_true, Bool.not_false, ↓reduceIte, Nat.reduceAdd, Nat.reduceSub, Nat.zero_add, Option.isSome]
  by_cases h : 0 < a
  · rw [decide_eq_true h]
    have h1 := b_fdiv hI.a0 hI.aB ht
    refine ⟨cmod ht, cdiv (hI.aB.mono (by decide)) (by omega), ?_⟩
    simp only [hn, List.length_cons, List.length_nil, ixN3_0, sRet, sSeq, sAsg, sIfS, sSkip, sPar, sAsgG, sDrop, sRaise, sOp, sCB, sCons, sNil, sVar, sC, sTup, sLst, sNew, sNeg, sNot, sTest, sNotT, sAndT, sOrT, sAnd, sOr, sIf, sChain, sBits, sCall, ini, endOf, kName, kTup2, oAdd, oI, oI0, oIs, isNon_non, isNon_tup, isNon_int, oIx, oLen, oAbs, oInt, oGcd, oType, oEq_ii, oNe_ii, oEq_enc, oNe_enc, oEq_tt, oNe_tt, atI_0, atI_1, List.map_cons, List.map_nil, List.length_cons, List.length_nil, List.cons_append, List.nil_append, List.append_nil, List.replicate_succ, List.replicate_zero, List.getElem?_cons_zero, List.getElem?_cons_succ, List.set_cons_zero, List.set_cons_succ, Bool.false_eq_true, decide_true, decide_false, Bool.not_true, Bool.not_false, ↓reduceIte, Nat.reduceAdd, Nat.reduceSub, Nat.zero_add, Option.isSome]
    exact hq _ _ (fmod_pos ht).1 (fmod_pos ht).2 ⟨_, b, c, List.getElem?_set_self hl, h1.1, h1.2, hI.b0, hI.bB, hI.c0, by unfold big; omega⟩ (aft_set n st _)
  · rw [decide_eq_false h]
    simp only [hn, atI_2, List.length_cons, List.length_nil, ixN3_2, List.getElem?_set_self hl, sRet, sSeq, sAsg, sIfS, sSkip, sPar, sAsgG, sDrop, sRaise, sOp, sCB, sCons, sNil, sVar, sC, sTup, sLst, sNew, sNeg, sNot, sTest, sNotT, sAndT, sOrT, sAnd, sOr, sIf, sChain, sBits, sCall, ini, endOf, kName, kTup2, oAdd, oI, oI0, oIs, isNon_non, isNon_tup, isNon_int, oIx, oLen, oAbs, oInt, oGcd, oType, oEq_ii, oNe_ii, oEq_enc, oNe_enc, oEq_tt, oNe_tt, atI_0, atI_1, List.map_cons, List.map_nil, List.length_cons, List.length_nil, List.cons_append, List.nil_append, List.append_nil, List.replicate_succ, List.replicate_zero, List.getElem?_cons_zero, List.getElem?_cons_succ, List.set_cons_zero, List.set_cons_succ, Bool.false_eq_true, decide_true, decide_false, Bool.not_true, Bool.not_false, ↓reduceIte, Nat.reduceAdd, Nat.reduceSub, Nat.zero_add, Option.isSome]
    have c0 := hI.c0
    have cB : B 41 (c + 1) := b_lt (by omega) (by omega)
    have m1 := B.mul (m := 20) (i := 1000381) (b_of (by decide)) cB
    have m61 : ∀ i t : Int, 0 < t → t < 2 ^ 61 → B 61 (i.fmod t) := fun i t h1 h2 => b_lt (fmod_pos h1).1 (Int.lt_trans (fmod_pos h1).2 h2)
    have o1 := m61 (b + 1000381 * (c + 1)) 2305843009213693951 (by decide) (by decide)
    refine ⟨cmul (b_of (n := 20) (by decide)) cB (by decide), cmod (by decide), cmul o1 o1 (by decide), cmod (by decide), cmul (m61 _ _ (by decide) (by decide)) o1 (by decide), cmul (b_of (n := 20) (by decide)) cB (by decide), cmod (by decide), ?_⟩
    refine ⟨cdiv ((m61 _ _ (by decide) (by decide)).mono (by decide)) (by decide), cmod ht, ?_⟩
    exact hq _ _ (fmod_pos ht).1 (fmod_pos ht).2 ⟨a, b, c + 1, List.getElem?_set_self hl, hI.a0, hI.aB, hI.b0, hI.bB, by omega, by unfold big; omega⟩ (aft_set n st _)
theorem p__law_one_of : ∀ pvs st Q PX, S__law_one_of mg pvs st Q PX → t__law_one_of K mg (endOf Q PX) (ini N__law_one_of pvs) st := by
  rintro pvs st Q PX ⟨n, k, l, rfl, hd, hne, hl, hq⟩
  have h0 : 0 < l.length := List.length_pos_iff.mpr hne
  simp only [t__law_one_of, sRet, sSeq, sAsg, sIfS, sSkip, sPar, sAsgG, sDrop, sRaise, sOp, sCB, sCons, sNil, sVar, sC, sTup, sLst, sNew, sNeg, sNot, sTest, sNotT, sAndT, sOrT, sAnd, sOr, sIf, sChain, sBits, sCall, ini, endOf, kName, kTup2, oAdd, oI, oI0, oIs, isNon_non, isNon_tup, isNon_int, oIx, oLen, oAbs, oInt, oGcd, oType, oEq_ii, oNe_ii, oEq_enc, oNe_enc, oEq_tt, oNe_tt, atI_0, atI_1, List.map_cons, List.map_nil, List.length_cons, List.length_nil, List.cons_append, List.nil_append, List.append_nil, List.replicate_succ, List.replicate_zero, List.getElem?_cons_zero, List.getElem?_cons_succ, List.set_cons_zero, List.set_cons_succ, Bool.false_eq_true, decide_true, decide_false, Bool.not_true, Bool.not_false, ↓reduceIte, Nat.reduceAdd, Nat.reduceSub, Nat.zero_add, Option.isSome]
  refine ⟨n, k, (l.length : Int), rfl, hd, by omega, b_lt (by omega) (by omega), fun r st' h1 h2 hd' ha => ?_⟩
  have hr : r.toNat < l.length := by omega
  have e : atI l r = some (l[r.toNat]'hr) := by
    unfold atI ixN
    rw [if_pos h1, if_pos (by omega)]
    simp [hr]
  simp only [e]
  exact hq _ (List.getElem_mem hr) st' hd' ha
theorem cp (j : Int) (h : 0 < j) (h2 : j ≤ 1000) : CPowG 10 j := by
  refine ⟨h, by decide, ?_⟩
  have e : Builtin.Int.intBits 10 = 4 := by decide
  rw [e]
  omega
theorem DiceAt.mono {n j k : Nat} {st : Store} (h : DiceAt n k st) (hj : j ≤ k) : DiceAt n j st := by
  obtain ⟨a, b, c, h1, h2⟩ := h
  have := h2.cB
  exact ⟨a, b, c, h1, h2.a0, h2.aB, h2.b0, h2.bB, h2.c0, by omega⟩
end
end Cm
set_option Elab.async false
set_option linter.all false
set_option maxRecDepth 100000
set_option maxHeartbeats 1000000
namespace Cm
open PySem PySem.Spec PyProof.Rows L2 Sm Wm
section
variable {K : PySem.W.Frag} {mg : Str → Option Value}
theorem e60 : ((10 : Int) ^ Int.toNat 60) ^ Int.toNat 10 = ((10 ^ 600 : Nat) : Int) := by decide +kernel
theorem e18 : (10 : Int) ^ Int.toNat 18 = 1000000000000000000 := by decide +kernel
theorem cp60 : CPowG ((10 : Int) ^ Int.toNat 60) 10 := by
  refine ⟨by decide, by decide +kernel, ?_⟩
  decide +kernel
theorem b600 : (10 : Nat) ^ 600 ≤ 2 ^ 2000 := by decide +kernel
def diceTail : SemS := (sSeq (sAsg (sOp oMod (sCB oInt (sCons (sCB oAbs (sCons (sVar 2) sNil)) sNil)) (sOp oPow (sOp oPow (sC (.int 10)) (sC (.int 60))) (sC (.int 10)))) 3) (sSeq (sAsg (sOp oDiv (sVar 3) (sOp oPow (sC (.int 10)) (sC (.int 18)))) 4) (sSeq (sAsg (sOp oAdd (sOp oAdd (sOp oAdd (sOp oMul (sOp oMod (sVar 3) (sC (.int 2147482763))) (sC (.int 60497))) (sOp oMul (sC (.int 3511)) (sVar 1))) (sOp oMul (sC (.int 79)) (sCB oInt (sCons (sOp oLt (sVar 2) (sC (.int 0))) sNil)))) (sC (.int 103))) 5) (sRet (sNew (sCons (sVar 4) (sCons (sOp oMod (sVar 5) (sC (.int 2147482739))) (sCons (sC (.int 0)) sNil))))))))
theorem dice_end (st : Store) (cell at_ : Int) (h0 : 0 ≤ at_) (h1 : at_ < 1000) (Q : Sm.PK) (PX : Sm.XP) (l : List Int) (hq : ∀ st', DiceAt st.length 100000 st' → Q (.hd st.length) st') (x y z : Option PV) :
    diceTail (endOf Q PX)
      [some (.lst (l.map .int)), some (.int at_), some (.int cell), x, y, z] st := by
  simp only [diceTail, oPow, sRet, sSeq, sAsg, sIfS, sSkip, sPar, sAsgG, sDrop, sRaise, sOp, sCB, sCons, sNil, sVar, sC, sTup, sLst, sNew, sNeg, sNot, sTest, sNotT, sAndT, sOrT, sAnd, sOr, sIf, sChain, sBits, sCall, ini, endOf, kName, kTup2, oAdd, oI, oI0, oIs, isNon_non, isNon_tup, isNon_int, oIx, oLen, oAbs, oInt, oGcd, oType, oEq_ii, oNe_ii, oEq_enc, oNe_enc, oEq_tt, oNe_tt, atI_0, atI_1, List.map_cons, List.map_nil, List.length_cons, List.length_nil, List.cons_append, List.nil_append, List.append_nil, List.replicate_succ, List.replicate_zero, List.getElem?_cons_zero, List.getElem?_cons_succ, List.set_cons_zero, List.set_cons_succ, Bool.false_eq_true, decide_true, decide_false, Bool.not_true, Bool.not_false, ↓reduceIte, Nat.reduceAdd, Nat.reduceSub, Nat.zero_add, Option.isSome]
  refine ⟨cp 60 (by decide) (by decide), cp60, cmod (by rw [e60]; decide +kernel), cp 18 (by decide) (by decide), ?_⟩
  rw [e60, e18]
  generalize hc : (if cell < 0 then -cell else cell) = cc
  have hm : (0 : Int) < ((10 ^ 600 : Nat) : Int) := by decide +kernel
  have f1 := fmod_pos (i := cc) hm
  generalize cc.fmod ((10 ^ 600 : Nat) : Int) = g at f1 ⊢
  have bg : B 2000 g := by
    unfold B
    have := b600
    generalize hN : (10 : Nat) ^ 600 = N at *
    omega
  have f2 := b_fdiv (t := 1000000000000000000) f1.1 bg (by decide)
  have f3 := fmod_pos (i := g) (t := 2147482763) (by decide)
  have b3 : B 40 (g.fmod 2147482763) := b_lt f3.1 (by omega)
  have b4 : B 40 at_ := b_lt h0 (by omega)
  refine ⟨cdiv (bg.mono (by decide)) (by decide), cmod (by decide), cmul b3 (b_of (n := 20) (by decide)) (by decide), cmul (b_of (n := 20) (by decide)) b4 (by decide), ?_⟩
  have b5 : B 40 (if decide (cell < 0) = true then (1 : Int) else 0) := by
    split
    · exact b_of (by decide)
    · exact b_of (by decide)
  refine ⟨cmul (b_of (n := 20) (by decide)) b5 (by decide), ?_⟩
  refine ⟨cmod (by decide), by decide, ?_⟩
  have f5 := fmod_pos (t := 2147482739) (by decide) (i := g.fmod 2147482763 * 60497 + 3511 * at_ + 79 * (if decide (cell < 0) = true then (1 : Int) else 0) + 103)
  exact hq _ ⟨_, _, _, get_end st _, f2.1, f2.2.mono (by decide), f5.1, b_lt f5.1 (by omega), by decide, by decide⟩
theorem p__law_dice : ∀ pvs st Q PX, S__law_dice mg pvs st Q PX → t__law_dice K mg (endOf Q PX) (ini N__law_dice pvs) st := by
  rintro pvs st Q PX ⟨l, i, rfl, h0, h1, hl, hq⟩
  have b4 : B 40 i := b_lt h0 (by omega)
  have e : t__law_dice K mg = sSeq (sAsg (sOp oAdd (sOp oMul (sC (.int 89)) (sVar 1)) (sC (.int 61))) 2) (sSeq (sIfS (sTest (sOp oLt (sVar 1) (sCB oLen (sCons (sVar 0) sNil)))) (sAsg (sOp oIx (sVar 0) (sVar 1)) 2) sSkip) diceTail) := rfl
  rw [e]
  simp only [List.length_map, sRet, sSeq, sAsg, sIfS, sSkip, sPar, sAsgG, sDrop, sRaise, sOp, sCB, sCons, sNil, sVar, sC, sTup, sLst, sNew, sNeg, sNot, sTest, sNotT, sAndT, sOrT, sAnd, sOr, sIf, sChain, sBits, sCall, ini, endOf, kName, kTup2, oAdd, oI, oI0, oIs, isNon_non, isNon_tup, isNon_int, oIx, oLen, oAbs, oInt, oGcd, oType, oEq_ii, oNe_ii, oEq_enc, oNe_enc, oEq_tt, oNe_tt, atI_0, atI_1, List.map_cons, List.map_nil, List.length_cons, List.length_nil, List.cons_append, List.nil_append, List.append_nil, List.replicate_succ, List.replicate_zero, List.getElem?_cons_zero, List.getElem?_cons_succ, List.set_cons_zero, List.set_cons_succ, Bool.false_eq_true, decide_true, decide_false, Bool.not_true, Bool.not_false, ↓reduceIte, Nat.reduceAdd, Nat.reduceSub, Nat.zero_add, Option.isSome]
  refine ⟨cmul (b_of (n := 20) (by decide)) b4 (by decide), ?_⟩
  by_cases h : i < (l.length : Int)
  · rw [decide_eq_true h]
    have hr : i.toNat < l.length := by omega
    have ea : atI (l.map PV.int) i = some (.int (l[i.toNat]'hr)) := by
      unfold atI ixN
      rw [if_pos h0, if_pos (by rw [List.length_map]; omega)]
      simp [hr]
    simp only [ea]
    exact dice_end st _ i h0 h1 Q PX l hq _ _ _
  · rw [decide_eq_false h]
    exact dice_end st _ i h0 h1 Q PX l hq _ _ _
end
end Cm
set_option Elab.async false
set_option linter.all false
set_option maxRecDepth 100000
set_option maxHeartbeats 1000000
namespace K5
open PySem PySem.Spec PyProof.Rows L2 Sm Cm
abbrev Tb := List (Str × Nat)
def getT (l : Tb) (k : Str) : Option Nat := (l.find? fun p => decide (p.1 = k)).map (·.2)
def putT (l : Tb) (k : Str) (v : Nat) : Tb := if (l.any fun p => decide (p.1 = k)) = true then l.map (fun p => if p.1 = k then (p.1, v) else p) else l ++ [(k, v)]
def dropT (l : Tb) (k : Str) : Tb := l.filter fun p => decide (p.1 ≠ k)
def encT (g : Nat → PV) (l : Tb) : DL := l.map fun p => (.inr p.1, g p.2)
theorem getT_enc (g : Nat → PV) (k : Str) : ∀ l : Tb, getP (encT g l) (.inr k) = (getT l k).map g
  | [] => rfl
  | p :: r => by
    have ih := getT_enc g k r
    unfold getP getT encT at ih ⊢
    simp only [List.map_cons, List.find?_cons]
    by_cases h : p.1 = k
    · simp [h]
    · have h2 : ¬ ((Sum.inr p.1 : Key) = Sum.inr k) := fun e => h (Sum.inr.inj e)
      simp only [decide_eq_false h, decide_eq_false h2]
      exact ih
theorem any_enc (g : Nat → PV) (k : Str) (l : Tb) : ((encT g l).any fun kv => decide (kv.1 = (.inr k : Key))) = l.any fun p => decide (p.1 = k) := by
  unfold encT
  rw [List.any_map]
  congr 1
  funext p
  simp
theorem putT_enc (g : Nat → PV) (k : Str) (v : Nat) (l : Tb) : putP (encT g l) (.inr k) (g v) = encT g (putT l k v) := by
  unfold putP putT
  rw [any_enc]
  split
  · unfold encT
    rw [List.map_map, List.map_map]
    congr 1
    funext p
    by_cases h : p.1 = k
    · simp [h]
    · simp [h]
  · unfold encT
    simp
theorem dropT_enc (g : Nat → PV) (k : Str) (l : Tb) : dropP (encT g l) (.inr k) = encT g (dropT l k) := by
  unfold dropP dropT encT
  rw [List.filter_map]
  congr 2
  funext p
  simp
theorem encT_len (g : Nat → PV) (l : Tb) : (encT g l).length = l.length := by simp [encT]
theorem encT_get (g g' : Nat → PV) (l : Tb) (h : ∀ p ∈ l, g p.2 = g' p.2) : encT g l = encT g' l := by
  unfold encT
  exact List.map_congr_left fun p hp => by rw [h p hp]
theorem strKs_enc (g : Nat → PV) : ∀ l : Tb, strKs (encT g l) = some (l.map (·.1))
  | [] => rfl
  | p :: r => by
    have ih := strKs_enc g r
    unfold encT at ih ⊢
    simp only [List.map_cons, strKs, ih, Option.map_some]
theorem getT_some {l : Tb} {k : Str} {i : Nat} (h : getT l k = some i) : (k, i) ∈ l := by
  unfold getT at h
  obtain ⟨p, hp, rfl⟩ := Option.map_eq_some_iff.mp h
  have := List.find?_some hp
  have e : p.1 = k := of_decide_eq_true this
  rw [← e]
  exact List.mem_of_find?_eq_some hp
theorem getT_none {l : Tb} {k : Str} : getT l k = none ↔ k ∉ l.map (·.1) := by
  unfold getT
  rw [Option.map_eq_none_iff, List.find?_eq_none]
  constructor
  · intro h hm
    obtain ⟨p, hp, e⟩ := List.mem_map.mp hm
    exact h p hp (decide_eq_true e)
  · intro h p hp e
    exact h (List.mem_map.mpr ⟨p, hp, of_decide_eq_true e⟩)
theorem dropT_none {l : Tb} {k : Str} (h : getT l k = none) : dropT l k = l := by
  rw [getT_none] at h
  unfold dropT
  exact List.filter_eq_self.mpr fun p hp => decide_eq_true fun e => h (List.mem_map.mpr ⟨p, hp, e⟩)
theorem putT_none {l : Tb} {k : Str} {v : Nat} (h : getT l k = none) : putT l k v = l ++ [(k, v)] := by
  rw [getT_none] at h
  unfold putT
  rw [if_neg]
  intro e
  obtain ⟨p, hp, e⟩ := List.any_eq_true.mp e
  exact h (List.mem_map.mpr ⟨p, hp, of_decide_eq_true e⟩)
inductive Jn
  | make (n : Str) (i : Nat)
  | remove (n : Str) (m : PV)
  | rename (o n : Str)
def Jn.enc : Jn → PV
  | .make n i => .tup [.str "make", .str n, .int i]
  | .remove n m => .tup [.str "remove", .str n, m]
  | .rename o n => .tup [.str "rename", .str o, .str n]
def app (T : Tb) : Jn → Tb
  | .make n i => putT T n i
  | .remove n _ => dropT T n
  | .rename o n => match getT T o with
    | some i => putT (dropT T o) n i
    | none => T
def runT (T : Tb) (l : List Jn) : Tb := l.foldl app T
structure Dk where
  base : Tb
  jr : List Jn
  fl : List (Str × Nat)
  steps : Nat
  pow : Option Nat
def Dk.cur (A : Dk) : Tb := runT A.base A.jr
def pwP : Option Nat → PV
  | none => .non
  | some n => .int (n : Nat)
/-- how a deed ends -/
inductive Out
  | name | op | unk (v : PV) | many (n : Nat) | lost (p : Nat)
def Dk.out (A : Dk) : Bool := decide (A.pow = some A.steps)
def Dk.tick (A : Dk) : Dk := { A with steps := A.steps + 1 }
def find (A : Dk) : PV → Option Nat
  | .str n => getT A.cur n
  | _ => none
def txtOf : PV → Str
  | .str x => x
  | _ => ""
def opAppend (A : Dk) (v w : PV) : Sum Out Dk :=
  if nameB v = false then .inl .name else match w with
  | .str x => match find A v with
    | none => if A.cur.length = 8 then .inl (.many 8) else if A.out then .inl (.lost A.steps) else .inr { A with jr := A.jr ++ [.make (txtOf v) A.fl.length], fl := A.fl ++ [(x, 0)], steps := A.steps + 1 }
    | some i => if A.out then .inl (.lost A.steps) else .inr { A with fl := A.fl.modify i (fun f => (f.1 ++ x, f.2)), steps := A.steps + 1 }
  | _ => .inl .op
def opSync (A : Dk) (v : PV) : Sum Out Dk := match find A v with
  | none => .inl (.unk v)
  | some i => if A.out then .inl (.lost A.steps) else .inr { A with fl := A.fl.modify i (fun f => (f.1, f.1.length)), steps := A.steps + 1 }
def opRemove (A : Dk) (v m : PV) : Sum Out Dk := match find A v with
  | none => .inl (.unk v)
  | some _ => if A.out then .inl (.lost A.steps) else .inr { A with jr := A.jr ++ [.remove (txtOf v) m], steps := A.steps + 1 }
def opRename (A : Dk) (v w : PV) : Sum Out Dk := match find A v with
  | none => .inl (.unk v)
  | some _ => if nameB w = false then .inl .name else if A.out then .inl (.lost A.steps) else .inr { A with jr := A.jr ++ [.rename (txtOf v) (txtOf w)], steps := A.steps + 1 }
def opNames (A : Dk) : Sum Out Dk := if A.out then .inl (.lost A.steps) else .inr { A with base := A.cur, jr := [], steps := A.steps + 1 }
/-- the drawn choice at i, of many -/
def pick (c : List Nat) (i many : Nat) : Nat := if i < c.length then (c.getD i 0) % many else 0
def cutF (c : List Nat) (k : Nat) (f : Str × Nat) : Str × Nat :=
  let t : Str := Txt.slice f.1 none (some (((f.2 + pick c (k + 1) (f.1.length - f.2 + 1) : Nat) : Int)))
  (t, t.length)
/-- what stands behind a loss of power, ys: the names in their order -/
def lostF (A : Dk) (T : Tb) (c : List Nat) : Nat → List Str → List (Str × Nat)
  | _, [] => []
  | k, y :: r => cutF c k (A.fl.getD ((getT T y).getD 0) ("", 0)) :: lostF A T c (k + 1) r
def opLost (A : Dk) (c : List Nat) (p : Option Nat) (ys : List Str) : Dk :=
  { base := ys.zipIdx, jr := [], fl := lostF A (runT A.base (A.jr.take (pick c 0 (A.jr.length + 1)))) c 0 ys, steps := 0, pow := p }
end K5
set_option linter.all false
set_option maxRecDepth 100000
namespace K5
open PySem PySem.Spec PyProof.Rows L2 Sm Cm
/-- all but what stands at M stays, more may come -/
def Kp (M : List Nat) (st st' : Store) : Prop := st.length ≤ st'.length ∧ ∀ i, i < st.length → i ∉ M → st'[i]? = st[i]?
/-- a new place, or one of M -/
def Near (M M' : List Nat) (st : Store) : Prop := ∀ i ∈ M', i ∈ M ∨ st.length ≤ i
structure LP where
  d : Nat
  t : Nat
  tb : List Nat
  F : List Nat
def LP.hs (L : LP) : List Nat := L.d :: L.t :: (L.tb ++ L.F)
def fOf (F : List Nat) (i : Nat) : PV := .oh (F.getD i 0)
def iDisk (mg : Str → Option Value) (p : PV) (n : Nat) (t : PV) : Ob := .ins (ad mg "Disk") [("_power", p), ("_steps", .int (n : Nat)), ("_tables", t)]
def iFile (mg : Str → Option Value) (f : Str × Nat) : Ob := .ins (ad mg "DiskFile") [("text", .str f.1), ("firm_count", .int (f.2 : Nat))]
structure RepP (mg : Str → Option Value) (st : Store) (L : LP) (A : Dk) : Prop where
  d : st[L.d]? = some (iDisk mg (pwP A.pow) A.steps (.hd L.t))
  t : st[L.t]? = some (.lst (L.tb.map .dh))
  ltb : L.tb.length = A.jr.length + 1
  tb : ∀ (i h : Nat), L.tb[i]? = some h → st[h]? = some (.dct (encT (fOf L.F) (runT A.base (A.jr.take i))))
  lF : L.F.length = A.fl.length
  F : ∀ (i h : Nat) (f : Str × Nat), L.F[i]? = some h → A.fl[i]? = some f → st[h]? = some (iFile mg f)
  nF : L.F.Nodup
structure LL where
  o : Nat
  n0 : Nat
  j : Nat
  f : Nat
  h : List Nat
def LL.hs (L : LL) : List Nat := L.o :: L.n0 :: L.j :: L.f :: L.h
def iNum (i : Nat) : PV := .int (i : Nat)
def fDct (h : List Nat) : DL := h.zipIdx.map fun p => (.inl (p.2 : Nat), .hd p.1)
structure RepL (st : Store) (L : LL) (A : Dk) : Prop where
  o : st[L.o]? = some (.lst [.dh L.n0, .hd L.j, .dh L.f, .int (A.steps : Nat), pwP A.pow])
  n0 : st[L.n0]? = some (.dct (encT iNum A.base))
  j : st[L.j]? = some (.lst (A.jr.map Jn.enc))
  f : st[L.f]? = some (.dct (fDct L.h))
  lh : L.h.length = A.fl.length
  h : ∀ (i h : Nat) (f : Str × Nat), L.h[i]? = some h → A.fl[i]? = some f → st[h]? = some (.lst [.str f.1, .int (f.2 : Nat)])
  nh : L.h.Nodup
  ne : L.n0 ≠ L.f
def okN (n : Str) : Prop := n.length ≤ 20 ∧ PyData.strOk n = true
def okT (T : Tb) (m : Nat) : Prop := (T.map (·.1)).Nodup ∧ T.length ≤ 8 ∧ ∀ p ∈ T, p.2 < m ∧ okN p.1
def okJ (m : Nat) : Tb → List Jn → Prop
  | T, [] => okT T m
  | T, j :: r => okT T m ∧ (match j with
    | .make n i => getT T n = none
    | .remove n _ => (getT T n).isSome = true
    | .rename o n => (getT T o).isSome = true) ∧ okJ m (app T j) r
structure WF (n : Nat) (A : Dk) : Prop where
  le : n ≤ 101
  okj : okJ A.fl.length A.base A.jr
  jl : A.jr.length ≤ n
  fll : A.fl.length ≤ n + 8
  sl : A.steps ≤ n
  pw : ∀ p, A.pow = some p → A.steps ≤ p ∧ p ≤ 1000000
  fb : ∀ f ∈ A.fl, f.2 ≤ f.1.length ∧ f.1.length ≤ 20 * n + 20
def isX (mg : Str → Option Value) : Out → Exn → Prop
  | .name, e => e.cls = ad mg "InvalidName" ∧ e.fld = "message"
  | .op, e => e.cls = ad mg "InvalidOperation" ∧ e.fld = "message"
  | .unk v, e => e = ⟨ad mg "UnknownName", "asked", v⟩
  | .many n, e => e = ⟨ad mg "TooMany", "limit", .int (n : Nat)⟩
  | .lost p, e => e = ⟨ad mg "PowerLost", "taken", .int (p : Nat)⟩
def Out.enc : Out → PV
  | .name => .tup [.str "name"]
  | .op => .tup [.str "operation"]
  | .unk v => .tup [.str "unknown", v]
  | .many n => .tup [.str "many", .int (n : Nat)]
  | .lost p => .tup [.str "lost", .int (p : Nat)]
/-- a name, a text that is handed in -/
def okV : PV → Prop
  | .str x => okN x
  | .int i => i = 5
  | _ => False
/-- how a deed of the program ends -/
def EndsP (mg : Str → Option Value) (L : LP) (st : Store) (Q : PK) (PX : XP) : Sum Out Dk → Prop
  | .inl o => ∀ e st', isX mg o e → Kp [] st st' → PX e st'
  | .inr A' => ∀ (L' : LP) st', RepP mg st' L' A' → L'.d = L.d → Near L.hs L'.hs st → Kp L.hs st st' → Q .non st'
def printB (x : Str) : Bool := x.cps.toList.all fun c => !decide ([c] < (" " : Str).cps.toList) && !decide (("~" : Str).cps.toList < [c])
def textB : PV → Bool
  | .str x => printB (Txt.replace x "\n" "")
  | _ => false
def choB : PV → Bool
  | .tup l => l.all fun v => match v with
    | .int i => fewB 60 (.int i) && decide (0 ≤ i)
    | _ => false
  | _ => false
def cTup (c : List Nat) : PV := .tup (c.map iNum)
def S_is_passed_integer (mg : Str → Option Value) : SpecF := fun pvs st Q PX => ∃ v, pvs = [v] ∧ plainB v = true ∧ Q (.bl (fewB 60 v)) st
def S_is_printable (mg : Str → Option Value) : SpecF := fun pvs st Q PX => ∃ x : Str, pvs = [.str x] ∧ x.length ≤ 1000 ∧ ∀ st', Ext st st' → Q (.bl (printB x)) st'
def S_DiskFile___init__ (mg : Str → Option Value) : SpecF := fun pvs st Q PX => ∃ n v w, pvs = [.oh n, v, w] ∧ st[n]? = some (.ins (ad mg "DiskFile") []) ∧ Q .non (st.set n (.ins (ad mg "DiskFile") [("text", v), ("firm_count", w)]))
def S__is_text (mg : Str → Option Value) : SpecF := fun pvs st Q PX => ∃ v, pvs = [v] ∧ (tyName v).isSome = true ∧ (∀ x, v = .str x → x.length ≤ 300) ∧ ∀ st', Ext st st' → Q (.bl (textB v)) st'
def S__are_choices (mg : Str → Option Value) : SpecF := fun pvs st Q PX => ∃ v, pvs = [v] ∧ fineB v = true ∧ (∀ l, v = .tup l → l.length ≤ 100) ∧ ∀ st', Ext st st' → Q (.bl (choB v)) st'
def S__choice_at (mg : Str → Option Value) : SpecF := fun pvs st Q PX => ∃ (c : List Nat) (i many : Nat), pvs = [cTup c, .int (i : Nat), .int (many : Nat)] ∧ 0 < many ∧ many < 2 ^ 40 ∧ c.length ≤ 100 ∧ (∀ x ∈ c, x < 2 ^ 40) ∧ Q (.int (pick c i many : Nat)) st
def badP (v : PV) : Prop := ∃ k : Int, v = .int k ∧ (k < 0 ∨ 1000000 < k) ∧ plainB v = true
def S_Disk___init__ (mg : Str → Option Value) : SpecF := fun pvs st Q PX => ∃ n p, pvs = [.oh n, p] ∧ st[n]? = some (.ins (ad mg "Disk") []) ∧
  ((∃ pw : Option Nat, p = pwP pw ∧ (∀ k, pw = some k → k ≤ 1000000) ∧ Q .non ((st ++ [Ob.dct [], Ob.lst [.dh st.length]]).set n (iDisk mg p 0 (.hd (st.length + 1))))) ∨
   (badP p ∧ PX ⟨ad mg "InvalidNumber", "given", p⟩ st))
def S_Disk_names (mg : Str → Option Value) : SpecF := fun pvs st Q PX => ∃ L A n, pvs = [.oh L.d] ∧ RepP mg st L A ∧ WF n A ∧ ∀ ys : List Str, ys.Perm (A.cur.map (·.1)) → sortedS ys = true → Q (.tup (ys.map .str)) st
def S_Disk_steps (mg : Str → Option Value) : SpecF := fun pvs st Q PX => ∃ d p n t, pvs = [.oh d] ∧ st[d]? = some (iDisk mg p n t) ∧ Q (.int (n : Nat)) st
def S_Disk__check_file (mg : Str → Option Value) : SpecF := fun pvs st Q PX => ∃ L A v, pvs = [.oh L.d, v] ∧ RepP mg st L A ∧ okV v ∧ ((find A v).isSome = true → Q .non st) ∧ (find A v = none → PX ⟨ad mg "UnknownName", "asked", v⟩ st)
def S_Disk__step (mg : Str → Option Value) : SpecF := fun pvs st Q PX => ∃ d p n t, pvs = [.oh d] ∧ st[d]? = some (iDisk mg (pwP p) n t) ∧ n ≤ 1000 ∧ (p = some n → PX ⟨ad mg "PowerLost", "taken", .int (n : Nat)⟩ st) ∧ (p ≠ some n → Q .non (st.set d (iDisk mg (pwP p) (n + 1) t)))
def S_Disk__with_names (mg : Str → Option Value) : SpecF := fun pvs st Q PX => ∃ (d : Nat) (p : PV) (n t h : Nat) (l : List PV), pvs = [.oh d, .dh h] ∧ st[d]? = some (iDisk mg p n (.hd t)) ∧ st[t]? = some (.lst l) ∧ l.length ≤ 1000 ∧ Q .non (st.set t (.lst (l ++ [.dh h])))
def S_Disk__other_names (mg : Str → Option Value) : SpecF := fun pvs st Q PX => ∃ L A m x, pvs = [.oh L.d, .str x] ∧ RepP mg st L A ∧ okT A.cur m ∧ Q (.dh st.length) (st ++ [.dct (encT (fOf L.F) (dropT A.cur x))])
def S_Disk_append (mg : Str → Option Value) : SpecF := fun pvs st Q PX => ∃ L A n v w, pvs = [.oh L.d, v, w] ∧ RepP mg st L A ∧ WF n A ∧ n ≤ 100 ∧ okV v ∧ okV w ∧ (∀ x, w = .str x → textB w = true) ∧ EndsP mg L st Q PX (opAppend A v w)
def S_Disk_sync (mg : Str → Option Value) : SpecF := fun pvs st Q PX => ∃ L A n v, pvs = [.oh L.d, v] ∧ RepP mg st L A ∧ WF n A ∧ okV v ∧ EndsP mg L st Q PX (opSync A v)
def S_Disk_remove (mg : Str → Option Value) : SpecF := fun pvs st Q PX => ∃ L A n v m, pvs = [.oh L.d, v] ∧ RepP mg st L A ∧ WF n A ∧ okV v ∧ EndsP mg L st Q PX (opRemove A v m)
def S_Disk_rename (mg : Str → Option Value) : SpecF := fun pvs st Q PX => ∃ L A n v w, pvs = [.oh L.d, v, w] ∧ RepP mg st L A ∧ WF n A ∧ okV v ∧ okV w ∧ EndsP mg L st Q PX (opRename A v w)
def S_Disk_sync_names (mg : Str → Option Value) : SpecF := fun pvs st Q PX => ∃ L A n, pvs = [.oh L.d] ∧ RepP mg st L A ∧ WF n A ∧ EndsP mg L st Q PX (opNames A)
def S_Disk_read (mg : Str → Option Value) : SpecF := fun pvs st Q PX => ∃ L A n v, pvs = [.oh L.d, v] ∧ RepP mg st L A ∧ WF n A ∧ okV v ∧ (∀ i, find A v = some i → Q (.str (A.fl.getD i ("", 0)).1) st) ∧ (find A v = none → PX ⟨ad mg "UnknownName", "asked", v⟩ st)
/-- the dict of texts that is put, all firm -/
def txD (l : List (Str × Str)) : DL := l.map fun p => (.inr p.1, .str p.2)
def S_Disk_put_firm (mg : Str → Option Value) : SpecF := fun pvs st Q PX => ∃ (d : Nat) (p : PV) (n : Nat) (t : PV) (h : Nat) (l : List (Str × Str)), pvs = [.oh d, .dh h] ∧ st[d]? = some (iDisk mg p n t) ∧ st[h]? = some (.dct (txD l)) ∧ (l.map (·.1)).Nodup ∧ l.length ≤ 100 ∧ (∀ q ∈ l, q.2.length ≤ 10000) ∧
  Q .non ((st ++ [Ob.dct (l.zipIdx.map fun q => (.inr q.1.1, .oh (st.length + 1 + q.2)))] ++ l.map (fun q => iFile mg (q.2, q.2.length)) ++ [Ob.lst [.dh st.length]]).set d (iDisk mg p n (.hd (st.length + 1 + l.length))))
def S_Disk_lost (mg : Str → Option Value) : SpecF := fun pvs st Q PX => ∃ L A n v p, pvs = [.oh L.d, v, p] ∧ RepP mg st L A ∧ WF n A ∧ fineB v = true ∧ (∀ l, v = .tup l → l.length ≤ 100) ∧
  (choB v = false → ∀ st', Ext st st' → PX ⟨ad mg "InvalidOperation", "message", v⟩ st') ∧
  (choB v = true → badP p → ∀ st', Ext st st' → PX ⟨ad mg "InvalidNumber", "given", p⟩ st') ∧
  (choB v = true → ¬ badP p → ∃ (c : List Nat) (pw : Option Nat), v = cTup c ∧ (∀ x ∈ c, x < 2 ^ 40) ∧ p = pwP pw ∧ (∀ k, pw = some k → k ≤ 1000000) ∧
    ∀ ys : List Str, ys.Perm ((runT A.base (A.jr.take (pick c 0 (A.jr.length + 1)))).map (·.1)) → sortedS ys = true → ∀ (L' : LP) st', RepP mg st' L' (opLost A c pw ys) → (∀ i ∈ L'.hs, st.length ≤ i) → Kp [] st st' → Q (.oh L'.d) st')
def S_Disk___contains__ (mg : Str → Option Value) : SpecF := fun pvs st Q PX => ∃ L A v, pvs = [.oh L.d, v] ∧ RepP mg st L A ∧ okV v ∧ Q (.bl (find A v).isSome) st
def S_Disk___len__ (mg : Str → Option Value) : SpecF := fun pvs st Q PX => ∃ L A, pvs = [.oh L.d] ∧ RepP mg st L A ∧ Q (.int (A.cur.length : Nat)) st
def sayD (k n : Nat) : Str := ((((("disk of " : Str) ++ (toString (k : Int) : Str)) ++ " files, ") ++ (toString (n : Int) : Str)) ++ " steps")
def S_Disk___str__ (mg : Str → Option Value) : SpecF := fun pvs st Q PX => ∃ L A n, pvs = [.oh L.d] ∧ RepP mg st L A ∧ WF n A ∧ Q (.str (sayD A.cur.length A.steps)) st
def S__law_new (mg : Str → Option Value) : SpecF := fun pvs st Q PX => ∃ p, pvs = [p] ∧ Q (.hd (st.length + 3)) (st ++ [.dct [], .lst [], .dct [], .lst [.dh st.length, .hd (st.length + 1), .dh (st.length + 2), .int 0, p]])
def S__law_names (mg : Str → Option Value) : SpecF := fun pvs st Q PX => ∃ (L : LL) (A : Dk) (n many : Nat), pvs = [.hd L.o, .int (many : Nat)] ∧ RepL st L A ∧ WF n A ∧ many ≤ A.jr.length ∧ Q (.dh st.length) (st ++ [.dct (encT iNum (runT A.base (A.jr.take many)))])
def S__law_is_name (mg : Str → Option Value) : SpecF := fun pvs st Q PX => ∃ v, pvs = [v] ∧ okV v ∧ ∀ st', Ext st st' → Q (.bl (nameB v)) st'
/-- the deeds -/
inductive Deed
  | append | sync | names | remove | rename
def Deed.str : Deed → Str
  | .append => "append"
  | .sync => "sync"
  | .names => "names"
  | .remove => "remove"
  | .rename => "rename"
def step (A : Dk) (v w : PV) : Deed → Sum Out Dk
  | .append => opAppend A v w
  | .sync => opSync A v
  | .names => opNames A
  | .remove => opRemove A v w
  | .rename => opRename A v w
def toldE : PV := .tup [.str "told", .non]
/-- how a deed of the law ends -/
def EndsL (L : LL) (st : Store) (Q : PK) (A : Dk) : Sum Out Dk → Prop
  | .inl o => ∀ st', Kp [] st st' → Q o.enc st'
  | .inr A' => ∀ (L' : LL) st', RepL st' L' A' → L'.o = L.o → Near L.hs L'.hs st → Kp L.hs st st' → Q toldE st'
def S__law_step (mg : Str → Option Value) : SpecF := fun pvs st Q PX => ∃ (L : LL) (A : Dk) (n : Nat) (v w : PV) (a : Deed), pvs = [.hd L.o, .tup [.str a.str, v, w]] ∧ RepL st L A ∧ WF n A ∧ n ≤ 100 ∧ okV v ∧ okV w ∧ EndsL L st Q A (step A v w a)
def S__law_lost (mg : Str → Option Value) : SpecF := fun pvs st Q PX => ∃ (L : LL) (A : Dk) (n : Nat) (c : List Nat) (pw : Option Nat), pvs = [.hd L.o, cTup c, pwP pw] ∧ RepL st L A ∧ WF n A ∧ c.length ≤ 20 ∧ (∀ x ∈ c, x < 2 ^ 40) ∧
  ∀ ys : List Str, ys.Perm ((runT A.base (A.jr.take (pick c 0 (A.jr.length + 1)))).map (·.1)) → sortedS ys = true → ∀ (L' : LL) st', RepL st' L' (opLost A c pw ys) → (∀ i ∈ L'.hs, st.length ≤ i) → Kp [] st st' → Q (.hd L'.o) st'
/-- how a deed is told -/
def EndsT (mg : Str → Option Value) (L : LP) (st : Store) (Q : PK) : Sum Out Dk → Prop
  | .inl o => ∀ st', Kp [] st st' → Q o.enc st'
  | .inr A' => ∀ (L' : LP) st', RepP mg st' L' A' → L'.d = L.d → Near L.hs L'.hs st → Kp L.hs st st' → Q toldE st'
def S__law_done (mg : Str → Option Value) : SpecF := fun pvs st Q PX => ∃ (L : LP) (A : Dk) (n : Nat) (v w : PV) (a : Deed), pvs = [.oh L.d, .tup [.str a.str, v, w]] ∧ RepP mg st L A ∧ WF n A ∧ n ≤ 100 ∧ okV v ∧ okV w ∧ (∀ x, w = .str x → textB w = true) ∧ EndsT mg L st Q (step A v w a)
def S__law_is_like (mg : Str → Option Value) : SpecF := fun pvs st Q PX => ∃ (L : LP) (M : LL) (A : Dk) (n : Nat), pvs = [.oh L.d, .hd M.o] ∧ RepP mg st L A ∧ RepL st M A ∧ WF n A ∧ ((∀ p ∈ A.cur, p.1 ≠ "zz")) ∧ ∀ st', Kp [] st st' → Q (.bl true) st'
def S__law_disks_right (mg : Str → Option Value) : SpecF := fun pvs st Q PX => ∃ n : Nat, pvs = [.hd n] ∧ DiceAt n 100000 st ∧ ∀ st', Q (.bl true) st'
def S_law (mg : Str → Option Value) : SpecF := fun pvs st Q PX => ∃ l : List Int, pvs = [.lst (l.map .int)] ∧ (∀ x ∈ l, Builtin.Int.intBits x ≤ 1048576) ∧ l.length ≤ 1000 ∧ ∀ st', Q (.bl true) st'
def l_word (K : PySem.W.Frag) (mg : Str → Option Value) : List SHd :=
  [(.ref (ad mg "InvalidName"), none, fun _ _ _ => sRet (sTup (sCons (sC (.str "name")) sNil))),
   (.ref (ad mg "InvalidNumber"), some 1, fun a cls d => sRet (sTup (sCons (sC (.str "number")) (sCons (sXf a cls d (ad mg "InvalidNumber") "given" (sVar 1)) sNil)))),
   (.ref (ad mg "InvalidOperation"), none, fun _ _ _ => sRet (sTup (sCons (sC (.str "operation")) sNil))),
   (.ref (ad mg "UnknownName"), some 1, fun a cls d => sRet (sTup (sCons (sC (.str "unknown")) (sCons (sXf a cls d (ad mg "UnknownName") "asked" (sVar 1)) sNil)))),
   (.ref (ad mg "TooMany"), some 1, fun a cls d => sRet (sTup (sCons (sC (.str "many")) (sCons (sXf a cls d (ad mg "TooMany") "limit" (sVar 1)) sNil)))),
   (.ref (ad mg "PowerLost"), some 1, fun a cls d => sRet (sTup (sCons (sC (.str "lost")) (sCons (sXf a cls d (ad mg "PowerLost") "taken" (sVar 1)) sNil))))]
end K5
set_option Elab.async false
set_option linter.all false
set_option maxRecDepth 100000
set_option maxHeartbeats 2000000
namespace K5
open PySem PySem.Spec PyProof.Rows L2 Sm Cm
abbrev N_is_passed_integer : List Str := ["value"]
theorem nd_is_passed_integer : N_is_passed_integer.Nodup := by decide +kernel
def t_is_passed_integer (K : PySem.W.Frag) (mg : Str → Option Value) : SemS := (sRet (sCall (S_is_integer_of mg) [] (sCons (sVar 0) (sCons (sC (.int 60)) sNil))))
abbrev N_is_printable : List Str := ["text", "sign"]
theorem nd_is_printable : N_is_printable.Nodup := by decide +kernel
def t_is_printable (K : PySem.W.Frag) (mg : Str → Option Value) : SemS := (sRet (sCB oAllH (sCons (sLc itemsS (sVar 0) 1 sYes (sChain oLeS oLeS (sC (.str " ")) (sVar 1) (sC (.str "~")))) sNil)))
abbrev N_DiskFile___init__ : List Str := ["self", "text", "firm_count"]
theorem nd_DiskFile___init__ : N_DiskFile___init__.Nodup := by decide +kernel
def t_DiskFile___init__ (K : PySem.W.Frag) (mg : Str → Option Value) : SemS := (sSeq (sSetAtt (ad mg "DiskFile") "text" (sVar 0) (sVar 1)) (sSetAtt (ad mg "DiskFile") "firm_count" (sVar 0) (sVar 2)))
abbrev N__is_text : List Str := ["value"]
theorem nd__is_text : N__is_text.Nodup := by decide +kernel
def t__is_text (K : PySem.W.Frag) (mg : Str → Option Value) : SemS := (sRet (sAnd (sOp (oIs false) (sCB oType (sCons (sVar 0) sNil)) (sC (.ty "str"))) (sCall (S_is_printable mg) [] (sCons (sRepl (sVar 0) "\n" "") sNil))))
abbrev N__are_choices : List Str := ["value", "choice"]
theorem nd__are_choices : N__are_choices.Nodup := by decide +kernel
def t__are_choices (K : PySem.W.Frag) (mg : Str → Option Value) : SemS := (sRet (sAnd (sOp (oIs false) (sCB oType (sCons (sVar 0) sNil)) (sC (.ty "tuple"))) (sCB oAllH (sCons (sLcI (sISeq (sVar 0)) (kName 1) [1] sYes (sAnd (sCall (S_is_passed_integer mg) [] (sCons (sVar 1) sNil)) (sOp oGe (sVar 1) (sC (.int 0))))) sNil))))
abbrev N__choice_at : List Str := ["choices", "index", "many"]
theorem nd__choice_at : N__choice_at.Nodup := by decide +kernel
def t__choice_at (K : PySem.W.Frag) (mg : Str → Option Value) : SemS := (sRet (sIf (sTest (sOp oLt (sVar 1) (sCB oLen (sCons (sVar 0) sNil)))) (sOp oMod (sOp oIx (sVar 0) (sVar 1)) (sVar 2)) (sC (.int 0))))
abbrev N_Disk___init__ : List Str := ["self", "power"]
theorem nd_Disk___init__ : N_Disk___init__.Nodup := by decide +kernel
def t_Disk___init__ (K : PySem.W.Frag) (mg : Str → Option Value) : SemS := (sSeq (sIfS (sAndT (sTest (sOp (oIs true) (sVar 1) (sC .non))) (sNotT (sTest (sCall (S_is_between mg) [] (sCons (sVar 1) (sCons (sC (.int 0)) (sCons (sC (.int 1000000)) sNil))))))) (sRaise (ad mg "InvalidNumber") "given" (sCons (sVar 1) sNil)) sSkip) (sSeq (sSetAtt (ad mg "Disk") "_power" (sVar 0) (sVar 1)) (sSeq (sSetAtt (ad mg "Disk") "_steps" (sVar 0) (sC (.int 0))) (sSetAtt (ad mg "Disk") "_tables" (sVar 0) (sNew (sCons sDNew sNil))))))
abbrev N_Disk_names : List Str := ["self"]
theorem nd_Disk_names : N_Disk_names.Nodup := by decide +kernel
def t_Disk_names (K : PySem.W.Frag) (mg : Str → Option Value) : SemS := (sRet (sCB oTuple (sCons (sCB oDSort (sCons (sOp oIx (sAtt (ad mg "Disk") "_tables" (sVar 0)) (sNeg (sC (.int 1)))) sNil)) sNil)))
abbrev N_Disk_steps : List Str := ["self"]
theorem nd_Disk_steps : N_Disk_steps.Nodup := by decide +kernel
def t_Disk_steps (K : PySem.W.Frag) (mg : Str → Option Value) : SemS := (sRet (sAtt (ad mg "Disk") "_steps" (sVar 0)))
abbrev N_Disk__check_file : List Str := ["self", "name"]
theorem nd_Disk__check_file : N_Disk__check_file.Nodup := by decide +kernel
def t_Disk__check_file (K : PySem.W.Frag) (mg : Str → Option Value) : SemS := (sIfS (sTest (sOp (oInO true (ad mg "Disk") (S_Disk___contains__ mg)) (sVar 1) (sVar 0))) (sRaise (ad mg "UnknownName") "asked" (sCons (sVar 1) sNil)) sSkip)
abbrev N_Disk__step : List Str := ["self"]
theorem nd_Disk__step : N_Disk__step.Nodup := by decide +kernel
def t_Disk__step (K : PySem.W.Frag) (mg : Str → Option Value) : SemS := (sSeq (sIfS (sTest (sOp oEq2 (sAtt (ad mg "Disk") "_steps" (sVar 0)) (sAtt (ad mg "Disk") "_power" (sVar 0)))) (sRaise (ad mg "PowerLost") "taken" (sCons (sAtt (ad mg "Disk") "_power" (sVar 0)) sNil)) sSkip) (sSetAtt (ad mg "Disk") "_steps" (sVar 0) (sOp oAdd (sAtt (ad mg "Disk") "_steps" (sVar 0)) (sC (.int 1)))))
abbrev N_Disk__with_names : List Str := ["self", "table"]
theorem nd_Disk__with_names : N_Disk__with_names.Nodup := by decide +kernel
def t_Disk__with_names (K : PySem.W.Frag) (mg : Str → Option Value) : SemS := (sDrop (sApp (sAtt (ad mg "Disk") "_tables" (sVar 0)) (sCons (sVar 1) sNil)))
abbrev N_Disk__other_names : List Str := ["self", "name", "table", "one"]
theorem nd_Disk__other_names : N_Disk__other_names.Nodup := by decide +kernel
def t_Disk__other_names (K : PySem.W.Frag) (mg : Str → Option Value) : SemS := (sSeq (sAsg (sOp oIx (sAtt (ad mg "Disk") "_tables" (sVar 0)) (sNeg (sC (.int 1)))) 2) (sRet (sLockE (sDcI (sIKeys (sVar 2)) (kName 3) [3] (sTest (sOp oNe2 (sVar 3) (sVar 1))) (sVar 3) (sOp oDIx (sVar 2) (sVar 3))))))
abbrev N_Disk_append : List Str := ["self", "name", "text", "before", "file", "table"]
theorem nd_Disk_append : N_Disk_append.Nodup := by decide +kernel
def t_Disk_append (K : PySem.W.Frag) (mg : Str → Option Value) : SemS := (sSeq (sIfS (sNotT (sTest (sCall (S_is_name mg) [] (sCons (sVar 1) sNil)))) (sRaise (ad mg "InvalidName") "message" (sCons (sVar 1) sNil)) sSkip) (sSeq (sIfS (sNotT (sTest (sCall (S__is_text mg) [] (sCons (sVar 2) sNil)))) (sRaise (ad mg "InvalidOperation") "message" (sCons (sC (.str "no text of a file")) sNil)) sSkip) (sSeq (sIfS (sAndT (sTest (sOp (oInO true (ad mg "Disk") (S_Disk___contains__ mg)) (sVar 1) (sVar 0))) (sTest (sOp oEq2 (sCB (oLenO (ad mg "Disk") (S_Disk___len__ mg)) (sCons (sVar 0) sNil)) (sC (.int 8))))) (sRaise (ad mg "TooMany") "limit" (sCons (sC (.int 8)) sNil)) sSkip) (sSeq (sAsg (sIf (sTest (sOp (oInO false (ad mg "Disk") (S_Disk___contains__ mg)) (sVar 1) (sVar 0))) (sMeth (ad mg "Disk") "read" (S_Disk_read mg) [] (sVar 0) (sCons (sVar 1) sNil)) (sC (.str ""))) 3) (sSeq (sIfS (sTest (sOp oGt (sOp oAdd (sCB oLen (sCons (sVar 3) sNil)) (sCB oLen (sCons (sVar 2) sNil))) (sC (.int 200000)))) (sRaise (ad mg "TooMany") "limit" (sCons (sC (.int 200000)) sNil)) sSkip) (sSeq (sDrop (sMeth (ad mg "Disk") "_step" (S_Disk__step mg) [] (sVar 0) sNil)) (sIfS (sTest (sOp (oInO false (ad mg "Disk") (S_Disk___contains__ mg)) (sVar 1) (sVar 0))) (sSeq (sAsg (sOp oDIx (sOp oIx (sAtt (ad mg "Disk") "_tables" (sVar 0)) (sNeg (sC (.int 1)))) (sVar 1)) 4) (sSetAtt (ad mg "DiskFile") "text" (sVar 4) (sOp oAdd (sVar 3) (sVar 2)))) (sSeq (sAsg (sMeth (ad mg "Disk") "_other_names" (S_Disk__other_names mg) [] (sVar 0) (sCons (sVar 1) sNil)) 5) (sSeq (sSetD (sMake (ad mg "DiskFile") (S_DiskFile___init__ mg) [] (sCons (sVar 2) (sCons (sC (.int 0)) sNil))) (sVar 5) (sVar 1)) (sDrop (sMeth (ad mg "Disk") "_with_names" (S_Disk__with_names mg) [] (sVar 0) (sCons (sVar 5) sNil))))))))))))
abbrev N_Disk_sync : List Str := ["self", "name", "file"]
theorem nd_Disk_sync : N_Disk_sync.Nodup := by decide +kernel
def t_Disk_sync (K : PySem.W.Frag) (mg : Str → Option Value) : SemS := (sSeq (sDrop (sMeth (ad mg "Disk") "_check_file" (S_Disk__check_file mg) [] (sVar 0) (sCons (sVar 1) sNil))) (sSeq (sDrop (sMeth (ad mg "Disk") "_step" (S_Disk__step mg) [] (sVar 0) sNil)) (sSeq (sAsg (sOp oDIx (sOp oIx (sAtt (ad mg "Disk") "_tables" (sVar 0)) (sNeg (sC (.int 1)))) (sVar 1)) 2) (sSetAtt (ad mg "DiskFile") "firm_count" (sVar 2) (sCB oLen (sCons (sAtt (ad mg "DiskFile") "text" (sVar 2)) sNil))))))
abbrev N_Disk_remove : List Str := ["self", "name"]
theorem nd_Disk_remove : N_Disk_remove.Nodup := by decide +kernel
def t_Disk_remove (K : PySem.W.Frag) (mg : Str → Option Value) : SemS := (sSeq (sDrop (sMeth (ad mg "Disk") "_check_file" (S_Disk__check_file mg) [] (sVar 0) (sCons (sVar 1) sNil))) (sSeq (sDrop (sMeth (ad mg "Disk") "_step" (S_Disk__step mg) [] (sVar 0) sNil)) (sDrop (sMeth (ad mg "Disk") "_with_names" (S_Disk__with_names mg) [] (sVar 0) (sCons (sMeth (ad mg "Disk") "_other_names" (S_Disk__other_names mg) [] (sVar 0) (sCons (sVar 1) sNil)) sNil)))))
abbrev N_Disk_rename : List Str := ["self", "old", "new", "file", "table"]
theorem nd_Disk_rename : N_Disk_rename.Nodup := by decide +kernel
def t_Disk_rename (K : PySem.W.Frag) (mg : Str → Option Value) : SemS := (sSeq (sDrop (sMeth (ad mg "Disk") "_check_file" (S_Disk__check_file mg) [] (sVar 0) (sCons (sVar 1) sNil))) (sSeq (sIfS (sNotT (sTest (sCall (S_is_name mg) [] (sCons (sVar 2) sNil)))) (sRaise (ad mg "InvalidName") "message" (sCons (sVar 2) sNil)) sSkip) (sSeq (sDrop (sMeth (ad mg "Disk") "_step" (S_Disk__step mg) [] (sVar 0) sNil)) (sSeq (sAsg (sOp oDIx (sOp oIx (sAtt (ad mg "Disk") "_tables" (sVar 0)) (sNeg (sC (.int 1)))) (sVar 1)) 3) (sSeq (sAsg (sMeth (ad mg "Disk") "_other_names" (S_Disk__other_names mg) [] (sVar 0) (sCons (sVar 1) sNil)) 4) (sSeq (sSetD (sVar 3) (sVar 4) (sVar 2)) (sDrop (sMeth (ad mg "Disk") "_with_names" (S_Disk__with_names mg) [] (sVar 0) (sCons (sVar 4) sNil)))))))))
abbrev N_Disk_sync_names : List Str := ["self"]
theorem nd_Disk_sync_names : N_Disk_sync_names.Nodup := by decide +kernel
def t_Disk_sync_names (K : PySem.W.Frag) (mg : Str → Option Value) : SemS := (sSeq (sDrop (sMeth (ad mg "Disk") "_step" (S_Disk__step mg) [] (sVar 0) sNil)) (sSetAtt (ad mg "Disk") "_tables" (sVar 0) (sNew (sCons (sOp oIx (sAtt (ad mg "Disk") "_tables" (sVar 0)) (sNeg (sC (.int 1)))) sNil))))
abbrev N_Disk_read : List Str := ["self", "name"]
theorem nd_Disk_read : N_Disk_read.Nodup := by decide +kernel
def t_Disk_read (K : PySem.W.Frag) (mg : Str → Option Value) : SemS := (sSeq (sDrop (sMeth (ad mg "Disk") "_check_file" (S_Disk__check_file mg) [] (sVar 0) (sCons (sVar 1) sNil))) (sRet (sAtt (ad mg "DiskFile") "text" (sOp oDIx (sOp oIx (sAtt (ad mg "Disk") "_tables" (sVar 0)) (sNeg (sC (.int 1)))) (sVar 1)))))
abbrev N_Disk_lost : List Str := ["self", "choices", "power", "found", "table", "left", "index", "name", "file", "more"]
theorem nd_Disk_lost : N_Disk_lost.Nodup := by decide +kernel
def t_Disk_lost (K : PySem.W.Frag) (mg : Str → Option Value) : SemS := (sSeq (sIfS (sNotT (sTest (sCall (S__are_choices mg) [] (sCons (sVar 1) sNil)))) (sRaise (ad mg "InvalidOperation") "message" (sCons (sVar 1) sNil)) sSkip) (sSeq (sAsg (sMakeK (ad mg "Disk") 0 1 (S_Disk___init__ mg) (fun vs zs => vs ++ zs) sNil (sCons (sVar 2) sNil)) 3) (sSeq (sAsg (sOp oIx (sAtt (ad mg "Disk") "_tables" (sVar 0)) (sCall (S__choice_at mg) [] (sCons (sVar 1) (sCons (sC (.int 0)) (sCons (sCB oLen (sCons (sAtt (ad mg "Disk") "_tables" (sVar 0)) sNil)) sNil))))) 4) (sSeq (sAsg sDNew 5) (sSeq (sForI (sIEnumL (sCons (sCB oDSort (sCons (sVar 4) sNil)) sNil)) (kTup2 6 7) (sSeq (sAsg (sOp oDIx (sVar 4) (sVar 7)) 8) (sSeq (sAsg (sCall (S__choice_at mg) [] (sCons (sVar 1) (sCons (sOp oAdd (sVar 6) (sC (.int 1))) (sCons (sOp oAdd (sOp oSub (sCB oLen (sCons (sAtt (ad mg "DiskFile") "text" (sVar 8)) sNil)) (sAtt (ad mg "DiskFile") "firm_count" (sVar 8))) (sC (.int 1))) sNil)))) 9) (sSetD (sSl (sAtt (ad mg "DiskFile") "text" (sVar 8)) sPN (sPt (sOp oAdd (sAtt (ad mg "DiskFile") "firm_count" (sVar 8)) (sVar 9)))) (sVar 5) (sVar 7))))) (sSeq (sDrop (sMeth (ad mg "Disk") "put_firm" (S_Disk_put_firm mg) [] (sVar 3) (sCons (sVar 5) sNil))) (sRet (sVar 3))))))))
abbrev N_Disk_put_firm : List Str := ["self", "texts", "name"]
theorem nd_Disk_put_firm : N_Disk_put_firm.Nodup := by decide +kernel
def t_Disk_put_firm (K : PySem.W.Frag) (mg : Str → Option Value) : SemS := (sSetAtt (ad mg "Disk") "_tables" (sVar 0) (sNew (sCons (sLockE (sDcI (sIKeys (sVar 1)) (kName 2) [2] sYes (sVar 2) (sMake (ad mg "DiskFile") (S_DiskFile___init__ mg) [] (sCons (sOp oDIx (sVar 1) (sVar 2)) (sCons (sCB oLen (sCons (sOp oDIx (sVar 1) (sVar 2)) sNil)) sNil))))) sNil)))
abbrev N_Disk___contains__ : List Str := ["self", "value"]
theorem nd_Disk___contains__ : N_Disk___contains__.Nodup := by decide +kernel
def t_Disk___contains__ (K : PySem.W.Frag) (mg : Str → Option Value) : SemS := (sRet (sAnd (sOp (oIs false) (sCB oType (sCons (sVar 1) sNil)) (sC (.ty "str"))) (sOp (oDIn false) (sVar 1) (sOp oIx (sAtt (ad mg "Disk") "_tables" (sVar 0)) (sNeg (sC (.int 1)))))))
abbrev N_Disk___len__ : List Str := ["self"]
theorem nd_Disk___len__ : N_Disk___len__.Nodup := by decide +kernel
def t_Disk___len__ (K : PySem.W.Frag) (mg : Str → Option Value) : SemS := (sRet (sCB oDLen (sCons (sOp oIx (sAtt (ad mg "Disk") "_tables" (sVar 0)) (sNeg (sC (.int 1)))) sNil)))
abbrev N_Disk___str__ : List Str := ["self"]
theorem nd_Disk___str__ : N_Disk___str__.Nodup := by decide +kernel
def t_Disk___str__ (K : PySem.W.Frag) (mg : Str → Option Value) : SemS := (sRet (sFs [(sC (.str "disk of ")), (sFmt (sCB oDLen (sCons (sOp oIx (sAtt (ad mg "Disk") "_tables" (sVar 0)) (sNeg (sC (.int 1)))) sNil))), (sC (.str " files, ")), (sFmt (sAtt (ad mg "Disk") "_steps" (sVar 0))), (sC (.str " steps"))]))
abbrev N__law_new : List Str := ["_law_power"]
theorem nd__law_new : N__law_new.Nodup := by decide +kernel
def t__law_new (K : PySem.W.Frag) (mg : Str → Option Value) : SemS := (sRet (sNew (sCons sDNew (sCons (sNew sNil) (sCons sDNew (sCons (sC (.int 0)) (sCons (sVar 0) sNil)))))))
abbrev N__law_names : List Str := ["_law_own", "_law_many", "_law_found", "_law_word", "_law_old", "_law_new_here"]
theorem nd__law_names : N__law_names.Nodup := by decide +kernel
def t__law_names (K : PySem.W.Frag) (mg : Str → Option Value) : SemS := (sSeq (sAsg (sCB oDCopy (sCons (sOp oIx (sVar 0) (sC (.int 0))) sNil)) 2) (sSeq (sForI (sISeq (sSl (sOp oIx (sVar 0) (sC (.int 1))) sPN (sPt (sVar 1)))) (kTup3 3 4 5) (sIfS (sTest (sOp oEq2 (sVar 3) (sC (.str "make")))) (sSetD (sVar 5) (sVar 2) (sVar 4)) (sIfS (sTest (sOp oEq2 (sVar 3) (sC (.str "remove")))) (sDrop (sDPop (sVar 2) (sVar 4))) (sSetD (sDPop (sVar 2) (sVar 4)) (sVar 2) (sVar 5))))) (sRet (sVar 2))))
abbrev N__law_step : List Str := ["_law_own", "_law_deed", "_law_names_here", "_law_word", "_law_name", "_law_more", "_law_file"]
theorem nd__law_step : N__law_step.Nodup := by decide +kernel
def t__law_step (K : PySem.W.Frag) (mg : Str → Option Value) : SemS := (sSeq (sAsgG (sVar 1) (kTup3 3 4 5)) (sSeq (sAsg (sCall (S__law_names mg) [] (sCons (sVar 0) (sCons (sCB oLen (sCons (sOp oIx (sVar 0) (sC (.int 1))) sNil)) sNil))) 2) (sSeq (sIfS (sAndT (sTest (sOp oEq2 (sVar 3) (sC (.str "append")))) (sNotT (sTest (sCall (S__law_is_name mg) [] (sCons (sVar 4) sNil))))) (sRet (sTup (sCons (sC (.str "name")) sNil))) sSkip) (sSeq (sIfS (sAndT (sTest (sOp (oInT false) (sVar 3) (sTup (sCons (sC (.str "sync")) (sCons (sC (.str "remove")) (sCons (sC (.str "rename")) sNil)))))) (sTest (sOp (oDIn true) (sVar 4) (sVar 2)))) (sRet (sTup (sCons (sC (.str "unknown")) (sCons (sVar 4) sNil)))) sSkip) (sSeq (sIfS (sAndT (sTest (sOp oEq2 (sVar 3) (sC (.str "append")))) (sNotT (sTest (sCB oIsStr (sCons (sVar 5) (sCons (sC (.ty "str")) sNil)))))) (sRet (sTup (sCons (sC (.str "operation")) sNil))) sSkip) (sSeq (sIfS (sAndT (sTest (sOp oEq2 (sVar 3) (sC (.str "append")))) (sAndT (sTest (sOp (oDIn true) (sVar 4) (sVar 2))) (sTest (sOp oEq2 (sCB oDLen (sCons (sVar 2) sNil)) (sC (.int 8)))))) (sRet (sTup (sCons (sC (.str "many")) (sCons (sC (.int 8)) sNil)))) sSkip) (sSeq (sIfS (sAndT (sTest (sOp oEq2 (sVar 3) (sC (.str "rename")))) (sNotT (sTest (sCall (S__law_is_name mg) [] (sCons (sVar 5) sNil))))) (sRet (sTup (sCons (sC (.str "name")) sNil))) sSkip) (sSeq (sIfS (sAndT (sTest (sOp (oIs true) (sOp oIx (sVar 0) (sC (.int 4))) (sC .non))) (sTest (sOp oGe (sOp oIx (sVar 0) (sC (.int 3))) (sOp oIx (sVar 0) (sC (.int 4)))))) (sRet (sTup (sCons (sC (.str "lost")) (sCons (sOp oIx (sVar 0) (sC (.int 4))) sNil)))) sSkip) (sSeq (sSetIx (sOp oAdd (sOp oIx (sVar 0) (sC (.int 3))) (sC (.int 1))) (sVar 0) (sC (.int 3))) (sSeq (sIfS (sTest (sOp oEq2 (sVar 3) (sC (.str "append")))) (sSeq (sIfS (sTest (sOp (oDIn true) (sVar 4) (sVar 2))) (sSeq (sSetD (sNew (sCons (sC (.str "")) (sCons (sC (.int 0)) sNil))) (sOp oIx (sVar 0) (sC (.int 2))) (sCB oDLen (sCons (sOp oIx (sVar 0) (sC (.int 2))) sNil))) (sDrop (sApp (sOp oIx (sVar 0) (sC (.int 1))) (sCons (sTup (sCons (sC (.str "make")) (sCons (sVar 4) (sCons (sOp oSub (sCB oDLen (sCons (sOp oIx (sVar 0) (sC (.int 2))) sNil)) (sC (.int 1))) sNil)))) sNil)))) sSkip) (sSeq (sAsg (sOp oDIx (sOp oIx (sVar 0) (sC (.int 2))) (sOp oDIx (sCall (S__law_names mg) [] (sCons (sVar 0) (sCons (sCB oLen (sCons (sOp oIx (sVar 0) (sC (.int 1))) sNil)) sNil))) (sVar 4))) 6) (sSetIx (sOp oAdd (sOp oIx (sVar 6) (sC (.int 0))) (sVar 5)) (sVar 6) (sC (.int 0))))) (sIfS (sTest (sOp oEq2 (sVar 3) (sC (.str "sync")))) (sSetIx (sCB oLen (sCons (sOp oIx (sOp oDIx (sOp oIx (sVar 0) (sC (.int 2))) (sOp oDIx (sVar 2) (sVar 4))) (sC (.int 0))) sNil)) (sOp oDIx (sOp oIx (sVar 0) (sC (.int 2))) (sOp oDIx (sVar 2) (sVar 4))) (sC (.int 1))) (sIfS (sTest (sOp oEq2 (sVar 3) (sC (.str "names")))) (sParIx2 (sVar 2) (sNew sNil) (sVar 0) (sC (.int 0)) (sVar 0) (sC (.int 1))) (sDrop (sApp (sOp oIx (sVar 0) (sC (.int 1))) (sCons (sTup (sCons (sVar 3) (sCons (sVar 4) (sCons (sVar 5) sNil)))) sNil)))))) (sRet (sTup (sCons (sC (.str "told")) (sCons (sC .non) sNil))))))))))))))
abbrev N__law_is_name : List Str := ["_law_value", "_law_sign"]
theorem nd__law_is_name : N__law_is_name.Nodup := by decide +kernel
def t__law_is_name (K : PySem.W.Frag) (mg : Str → Option Value) : SemS := (sSeq (sIfS (sOrT (sNotT (sTest (sCB oIsStr (sCons (sVar 0) (sCons (sC (.ty "str")) sNil))))) (sOrT (sNotT (sTest (sChain oLe oLe (sC (.int 1)) (sCB oLen (sCons (sVar 0) sNil)) (sC (.int 8))))) (sTest (sOp (oInS true) (sOp oIx (sVar 0) (sC (.int 0))) (sC (.str "abcdefghijklmnopqrstuvwxyz")))))) (sRet (sC (.bl false))) sSkip) (sRet (sOp oEq2 (sLc itemsS (sVar 0) 1 (sTest (sOp (oInS true) (sVar 1) (sC (.str "abcdefghijklmnopqrstuvwxyz0123456789")))) (sVar 1)) (sLst sNil))))
abbrev N__law_lost : List Str := ["_law_own", "_law_choices", "_law_power", "_law_left", "_law_names_here", "_law_found", "_law_at", "_law_name", "_law_text", "_law_firm"]
theorem nd__law_lost : N__law_lost.Nodup := by decide +kernel
def t__law_lost (K : PySem.W.Frag) (mg : Str → Option Value) : SemS := (sSeq (sAsg (sOp oAdd2 (sCB oListH (sCons (sVar 1) sNil)) (sOp oRepN (sNew (sCons (sC (.int 0)) sNil)) (sC (.int 20)))) 3) (sSeq (sPar 4 5 (sCall (S__law_names mg) [] (sCons (sVar 0) (sCons (sOp oMod (sOp oIx (sVar 3) (sC (.int 0))) (sOp oAdd (sCB oLen (sCons (sOp oIx (sVar 0) (sC (.int 1))) sNil)) (sC (.int 1)))) sNil))) (sCall (S__law_new mg) [] (sCons (sVar 2) sNil))) (sSeq (sForI (sIEnumL (sCons (sCB oDSort (sCons (sVar 4) sNil)) sNil)) (kTup2 6 7) (sSeq (sAsgG (sOp oDIx (sOp oIx (sVar 0) (sC (.int 2))) (sOp oDIx (sVar 4) (sVar 7))) (kUnl2 8 9)) (sSeq (sAsg (sSl (sVar 8) sPN (sPt (sOp oAdd (sVar 9) (sOp oMod (sOp oIx (sVar 3) (sOp oAdd (sVar 6) (sC (.int 1)))) (sOp oAdd (sOp oSub (sCB oLen (sCons (sVar 8) sNil)) (sVar 9)) (sC (.int 1))))))) 8) (sSeq (sSetD (sNew (sCons (sVar 8) (sCons (sCB oLen (sCons (sVar 8) sNil)) sNil))) (sOp oIx (sVar 5) (sC (.int 2))) (sVar 6)) (sSetD (sVar 6) (sOp oIx (sVar 5) (sC (.int 0))) (sVar 7)))))) (sRet (sVar 5)))))
abbrev N__law_done : List Str := ["_law_disk", "_law_deed", "_law_word", "_law_name", "_law_more"]
theorem nd__law_done : N__law_done.Nodup := by decide +kernel
def t__law_done (K : PySem.W.Frag) (mg : Str → Option Value) : SemS := (sSeq (sAsgG (sVar 1) (kTup3 2 3 4)) (sSeq (sIfS (sTest (sOp oEq2 (sVar 2) (sC (.str "append")))) (sRet (sGiveT K (l_word K mg) "told" 2 (sMeth (ad mg "Disk") "append" (S_Disk_append mg) [] (sVar 0) (sCons (sVar 3) (sCons (sVar 4) sNil))))) sSkip) (sSeq (sIfS (sTest (sOp oEq2 (sVar 2) (sC (.str "sync")))) (sRet (sGiveT K (l_word K mg) "told" 2 (sMeth (ad mg "Disk") "sync" (S_Disk_sync mg) [] (sVar 0) (sCons (sVar 3) sNil)))) sSkip) (sSeq (sIfS (sTest (sOp oEq2 (sVar 2) (sC (.str "remove")))) (sRet (sGiveT K (l_word K mg) "told" 2 (sMeth (ad mg "Disk") "remove" (S_Disk_remove mg) [] (sVar 0) (sCons (sVar 3) sNil)))) sSkip) (sRet (sGiveT K (l_word K mg) "told" 2 (sIf (sTest (sOp oEq2 (sVar 2) (sC (.str "names")))) (sMeth (ad mg "Disk") "sync_names" (S_Disk_sync_names mg) [] (sVar 0) sNil) (sMeth (ad mg "Disk") "rename" (S_Disk_rename mg) [] (sVar 0) (sCons (sVar 3) (sCons (sVar 4) sNil))))))))))
abbrev N__law_is_like : List Str := ["_law_disk", "_law_own", "_law_names_here", "_law_name"]
theorem nd__law_is_like : N__law_is_like.Nodup := by decide +kernel
def t__law_is_like (K : PySem.W.Frag) (mg : Str → Option Value) : SemS := (sSeq (sAsg (sCall (S__law_names mg) [] (sCons (sVar 1) (sCons (sCB oLen (sCons (sOp oIx (sVar 1) (sC (.int 1))) sNil)) sNil))) 2) (sSeq (sIfS (sOrT (sTest (sOp oNe2 (sProp (ad mg "Disk") (S_Disk_names mg) (sVar 0)) (sCB oTuple (sCons (sCB oDSort (sCons (sVar 2) sNil)) sNil)))) (sOrT (sTest (sOp oNe2 (sProp (ad mg "Disk") (S_Disk_steps mg) (sVar 0)) (sOp oIx (sVar 1) (sC (.int 3))))) (sTest (sOp oNe2 (sCB (oLenO (ad mg "Disk") (S_Disk___len__ mg)) (sCons (sVar 0) sNil)) (sCB oDLen (sCons (sVar 2) sNil)))))) (sRet (sC (.bl false))) sSkip) (sSeq (sIfS (sTest (sOp oNe2 (sLockE (sLcI (sIKeys (sVar 2)) (kName 3) [3] (sTest (sOp oNe2 (sMeth (ad mg "Disk") "read" (S_Disk_read mg) [] (sVar 0) (sCons (sVar 3) sNil)) (sOp oIx (sOp oDIx (sOp oIx (sVar 1) (sC (.int 2))) (sOp oDIx (sVar 2) (sVar 3))) (sC (.int 0))))) (sVar 3))) (sLst sNil))) (sRet (sC (.bl false))) sSkip) (sSeq (sIfS (sOrT (sTest (sOp (oInO false (ad mg "Disk") (S_Disk___contains__ mg)) (sC (.str "zz")) (sVar 0))) (sTest (sOp oNe2 (sLockE (sLcI (sIKeys (sVar 2)) (kName 3) [3] (sTest (sOp (oInO true (ad mg "Disk") (S_Disk___contains__ mg)) (sVar 3) (sVar 0))) (sVar 3))) (sLst sNil)))) (sRet (sC (.bl false))) sSkip) (sRet (sOp oEq2 (sCB (oStrO (ad mg "Disk") (S_Disk___str__ mg)) (sCons (sVar 0) sNil)) (sOp oAdd (sOp oAdd (sOp oAdd (sOp oAdd (sC (.str "disk of ")) (sCB oStr (sCons (sCB oDLen (sCons (sVar 2) sNil)) sNil))) (sC (.str " files, "))) (sCB oStr (sCons (sOp oIx (sVar 1) (sC (.int 3))) sNil))) (sC (.str " steps")))))))))
abbrev N__law_disks_right : List Str := ["_law_dice_here", "_law_power", "_law_words", "_law_turn", "_law_wrong", "_law_disk", "_law_own", "_law_word", "_law_name", "_law_choices", "_law_more", "_law_other", "_law_told", "_law_due", "_law_at"]
theorem nd__law_disks_right : N__law_disks_right.Nodup := by decide +kernel
def t__law_disks_right (K : PySem.W.Frag) (mg : Str → Option Value) : SemS := (sSeq (sAsg (sIf (sTest (sOp oEq2 (sCall (S__law_roll mg) [] (sCons (sVar 0) (sCons (sC (.int 2)) sNil))) (sC (.int 0)))) (sC .non) (sCall (S__law_roll mg) [] (sCons (sVar 0) (sCons (sC (.int 40)) sNil)))) 1) (sSeq (sAsgG (sTup (sCons (sMakeK (ad mg "Disk") 0 1 (S_Disk___init__ mg) (fun vs zs => vs ++ zs) sNil (sCons (sVar 1) sNil)) (sCons (sCall (S__law_new mg) [] (sCons (sVar 1) sNil)) sNil))) (kTup2 5 6)) (sSeq (sAsg (sLst (sCons (sC (.str "append")) (sCons (sC (.str "append")) (sCons (sC (.str "append")) (sCons (sC (.str "append")) (sCons (sC (.str "sync")) (sCons (sC (.str "names")) (sCons (sC (.str "remove")) (sCons (sC (.str "rename")) (sCons (sC (.str "lost")) sNil)))))))))) 2) (sSeq (sForI (sIRng1 (sOp oAdd (sC (.int 10)) (sCall (S__law_roll mg) [] (sCons (sVar 0) (sCons (sC (.int 31)) sNil))))) (kName 3) (sSeq (sPar 7 8 (sCall (S__law_one_of mg) [] (sCons (sVar 0) (sCons (sVar 2) sNil))) (sOp oAdd (sC (.str "n")) (sCB oStr (sCons (sCall (S__law_roll mg) [] (sCons (sVar 0) (sCons (sC (.int 10)) sNil))) sNil)))) (sSeq (sIfS (sTest (sOp oEq2 (sVar 7) (sC (.str "lost")))) (sSeq (sAsg (sCB oTuple (sCons (sLcI (sIRng1 (sCall (S__law_roll mg) [] (sCons (sVar 0) (sCons (sC (.int 6)) sNil)))) (kName 14) [14] sYes (sCall (S__law_roll mg) [] (sCons (sVar 0) (sCons (sC (.int 9)) sNil)))) sNil)) 9) (sSeq (sAsg (sIf (sTest (sOp oEq2 (sCall (S__law_roll mg) [] (sCons (sVar 0) (sCons (sC (.int 2)) sNil))) (sC (.int 0)))) (sC .non) (sCall (S__law_roll mg) [] (sCons (sVar 0) (sCons (sC (.int 30)) sNil)))) 1) (sAsgG (sTup (sCons (sMethK (ad mg "Disk") "lost" 1 1 (S_Disk_lost mg) (fun vs zs => vs ++ zs) (sVar 5) (sCons (sVar 9) sNil) (sCons (sVar 1) sNil)) (sCons (sCall (S__law_lost mg) [] (sCons (sVar 6) (sCons (sVar 9) (sCons (sVar 1) sNil)))) sNil))) (kTup2 5 6)))) (sSeq (sAsg (sIf (sTest (sOp oEq2 (sCall (S__law_roll mg) [] (sCons (sVar 0) (sCons (sC (.int 12)) sNil))) (sC (.int 0)))) (sCall (S__law_one_of mg) [] (sCons (sVar 0) (sCons (sLst (sCons (sC (.str "A")) (sCons (sC (.int 5)) (sCons (sC (.str "nine12345")) (sCons (sC (.str "")) sNil))))) sNil))) (sVar 8)) 8) (sSeq (sAsg (sIf (sTest (sOp oGt (sCall (S__law_roll mg) [] (sCons (sVar 0) (sCons (sC (.int 12)) sNil))) (sC (.int 0)))) (sCall (S__law_one_of mg) [] (sCons (sVar 0) (sCons (sLst (sCons (sC (.str "")) (sCons (sC (.str "a")) (sCons (sC (.str "b c")) (sCons (sC (.str "d\ne")) sNil))))) sNil))) (sC (.int 5))) 10) (sSeq (sIfS (sTest (sOp oEq2 (sVar 7) (sC (.str "rename")))) (sSeq (sAsg (sOp oAdd (sC (.str "n")) (sCB oStr (sCons (sCall (S__law_roll mg) [] (sCons (sVar 0) (sCons (sC (.int 10)) sNil))) sNil))) 11) (sAsg (sIf (sTest (sOp oEq2 (sVar 11) (sVar 8))) (sC (.str "other")) (sIf (sTest (sOp oNe2 (sVar 10) (sC (.int 5)))) (sVar 11) (sC (.str "B")))) 10)) sSkip) (sSeq (sPar 12 13 (sCall (S__law_done mg) [] (sCons (sVar 5) (sCons (sTup (sCons (sVar 7) (sCons (sVar 8) (sCons (sVar 10) sNil)))) sNil))) (sCall (S__law_step mg) [] (sCons (sVar 6) (sCons (sTup (sCons (sVar 7) (sCons (sVar 8) (sCons (sVar 10) sNil)))) sNil)))) (sIfS (sOrT (sTest (sOp oNe2 (sOp oIx (sVar 12) (sC (.int 0))) (sOp oIx (sVar 13) (sC (.int 0))))) (sAndT (sTest (sOp oNe2 (sOp oIx (sVar 13) (sC (.int 0))) (sC (.str "told")))) (sTest (sOp oNe2 (sVar 12) (sVar 13))))) (sRet (sC (.bl false))) sSkip)))))) (sIfS (sNotT (sTest (sCall (S__law_is_like mg) [] (sCons (sVar 5) (sCons (sVar 6) sNil))))) (sRet (sC (.bl false))) sSkip)))) (sSeq (sAsg (sCall (S__law_one_of mg) [] (sCons (sVar 0) (sCons (sLst (sCons (sTup (sCons (sNeg (sC (.int 1))) sNil)) (sCons (sC (.int 5)) (sCons (sTup (sCons (sC (.str "a")) sNil)) (sCons (sTup (sCons (sC (.bl true)) sNil)) (sCons (sC .non) sNil)))))) sNil))) 4) (sSeq (sIfS (sTest (sOp oNe2 (sGiveT K (l_word K mg) "told" 2 (sMethK (ad mg "Disk") "lost" 1 1 (S_Disk_lost mg) (fun vs zs => vs ++ zs) (sVar 5) (sCons (sVar 4) sNil) (sCons (sNeg (sC (.int 1))) sNil))) (sTup (sCons (sC (.str "operation")) sNil)))) (sRet (sC (.bl false))) sSkip) (sSeq (sIfS (sTest (sOp oNe2 (sGiveT K (l_word K mg) "told" 2 (sMethK (ad mg "Disk") "lost" 0 1 (S_Disk_lost mg) (fun vs zs => vs ++ [PV.tup []] ++ zs) (sVar 5) sNil (sCons (sC (.int 1000001)) sNil))) (sTup (sCons (sC (.str "number")) (sCons (sC (.int 1000001)) sNil))))) (sRet (sC (.bl false))) sSkip) (sSeq (sIfS (sTest (sOp oNe2 (sGiveT K (l_word K mg) "told" 2 (sMakeK (ad mg "Disk") 0 1 (S_Disk___init__ mg) (fun vs zs => vs ++ zs) sNil (sCons (sNeg (sC (.int 1))) sNil))) (sTup (sCons (sC (.str "number")) (sCons (sNeg (sC (.int 1))) sNil))))) (sRet (sC (.bl false))) sSkip) (sRet (sOp oEq2 (sGiveT K (l_word K mg) "told" 2 (sMeth (ad mg "Disk") "read" (S_Disk_read mg) [] (sVar 5) (sCons (sC (.str "zz")) sNil))) (sTup (sCons (sC (.str "unknown")) (sCons (sC (.str "zz")) sNil)))))))))))))
abbrev N_law : List Str := ["_law_script", "_law_at"]
theorem nd_law : N_law.Nodup := by decide +kernel
def t_law (K : PySem.W.Frag) (mg : Str → Option Value) : SemS := (sSeq (sForI (sIRng1 (sCB oMin (sCons (sC (.int 2)) (sCons (sCB oMax (sCons (sC (.int 1)) (sCons (sCB oLen (sCons (sVar 0) sNil)) sNil))) sNil)))) (kName 1) (sIfS (sNotT (sTest (sCall (S__law_disks_right mg) [] (sCons (sCall (S__law_dice mg) [] (sCons (sVar 0) (sCons (sVar 1) sNil))) sNil)))) (sRet (sC (.bl false))) sSkip)) (sRet (sC (.bl true))))
end K5
set_option Elab.async false
set_option linter.all false
set_option maxRecDepth 100000
set_option maxHeartbeats 1000000
namespace Kt
open PySem L2
def dig (c : Nat) : Bool := decide (48 ≤ c) && decide (c ≤ 57)
def nothing : List Nat := [110, 111, 116, 104, 105, 110, 103]
inductive Q where
  | s | m | z | t (k : Nat) | b | u (k : Nat) | n (k : Nat)
def ok60 (ds : List Nat) (k : Nat) : Prop := (∀ c ∈ ds, dig c = true) ∧ ds.length = k ∧ 1 ≤ k ∧ k ≤ 60 ∧ ds.head? ≠ some 48
/-- a top -/
def Top (p : List Nat) : Prop := p = [48] ∨ ∃ sg ds k, p = sg ++ ds ∧ (sg = [] ∨ sg = [45]) ∧ ok60 ds k
def J : Q → List Nat → Prop
  | .s, p => p = []
  | .m, p => p = [45]
  | .z, p => p = [48]
  | .t k, p => ∃ sg ds, p = sg ++ ds ∧ (sg = [] ∨ sg = [45]) ∧ ok60 ds k
  | .b, p => ∃ a, p = a ++ [47] ∧ Top a
  | .u k, p => ∃ a ds, p = a ++ 47 :: ds ∧ Top a ∧ ok60 ds k
  | .n k, p => 1 ≤ k ∧ k ≤ 7 ∧ p = nothing.take k
end Kt
set_option Elab.async false
set_option linter.all false
set_option maxRecDepth 100000
set_option maxHeartbeats 1000000
namespace Tm
open PySem PySem.Spec PyProof.Rows L2 Sm Wm
abbrev tx (l : List Nat) : PV := .str (SX.S l)
theorem eq2_ii (i j : Int) (st : Store) (P : Sm.PK) : oEq2 (.int i) (.int j) st P = P (.bl (decide (i = j))) st := oEq_ii i j st P
theorem ne2_ii (i j : Int) (st : Store) (P : Sm.PK) : oNe2 (.int i) (.int j) st P = P (.bl (!decide (i = j))) st := oNe_ii i j st P
theorem atI_n {α : Type} (a : List α) (i : Nat) : atI a ((i : Nat) : Int) = a[i]? := by
  unfold atI ixN
  rw [if_pos (by omega)]
  by_cases h : i < a.length
  · rw [if_pos (by omega)]; simp
  · rw [if_neg (by omega)]; simp; omega
theorem sl_to (a : List Nat) (i : Nat) : Txt.slice (SX.S a) none (some ((i : Nat) : Int)) = SX.S (a.take i) := by
  rw [SX.slice_to (by omega)]; simp
end Tm
set_option Elab.async false
set_option linter.all false
set_option maxRecDepth 100000
set_option maxHeartbeats 1000000
namespace K5
open PySem PySem.Spec PyProof.Rows L2 Sm Wm Cm Kt Tm
variable {K : PySem.W.Frag} {mg : Str → Option Value}
theorem insAt_of {C : Addr} {st : Store} {n : Nat} {fs : List (Str × PV)} (h : st[n]? = some (.ins C fs)) : insAt C st (.oh n) = some fs := by simp [insAt, h]
theorem lt_of {st : Store} {n : Nat} {o : Ob} (h : st[n]? = some o) : n < st.length := (List.getElem?_eq_some_iff.mp h).1
theorem set_at {st : Store} {n : Nat} {o o' : Ob} (h : st[n]? = some o) : (st.set n o')[n]? = some o' := by simp [lt_of h]
theorem set_ne {st : Store} {n m : Nat} {o' : Ob} (h : n ≠ m) : (st.set n o')[m]? = st[m]? := by simp [h]
section
variable (p n t v w : PV)
theorem lk_p : List.lookup ("_power" : Str) [(("_power" : Str), p), ("_steps", n), ("_tables", t)] = some p := by rfl
theorem lk_s : List.lookup ("_steps" : Str) [(("_power" : Str), p), ("_steps", n), ("_tables", t)] = some n := by rfl
theorem lk_t : List.lookup ("_tables" : Str) [(("_power" : Str), p), ("_steps", n), ("_tables", t)] = some t := by rfl
theorem pa_s : putA ("_steps" : Str) v [(("_power" : Str), p), ("_steps", n), ("_tables", t)] = [(("_power" : Str), p), ("_steps", v), ("_tables", t)] := by rfl
theorem pa_t : putA ("_tables" : Str) v [(("_power" : Str), p), ("_steps", n), ("_tables", t)] = [(("_power" : Str), p), ("_steps", n), ("_tables", v)] := by rfl
theorem pa_0 : putA ("_power" : Str) v [] = [(("_power" : Str), v)] := by rfl
theorem pa_1 : putA ("_steps" : Str) v [(("_power" : Str), p)] = [(("_power" : Str), p), ("_steps", v)] := by rfl
theorem pa_2 : putA ("_tables" : Str) v [(("_power" : Str), p), ("_steps", n)] = [(("_power" : Str), p), ("_steps", n), ("_tables", v)] := by rfl
theorem fk_t : List.lookup ("text" : Str) [(("text" : Str), v), ("firm_count", w)] = some v := by rfl
theorem fk_f : List.lookup ("firm_count" : Str) [(("text" : Str), v), ("firm_count", w)] = some w := by rfl
theorem fa_0 : putA ("text" : Str) v [] = [(("text" : Str), v)] := by rfl
theorem fa_1 : putA ("firm_count" : Str) w [(("text" : Str), v)] = [(("text" : Str), v), ("firm_count", w)] := by rfl
theorem fa_t : putA ("text" : Str) p [(("text" : Str), v), ("firm_count", w)] = [(("text" : Str), p), ("firm_count", w)] := by rfl
theorem fa_f : putA ("firm_count" : Str) p [(("text" : Str), v), ("firm_count", w)] = [(("text" : Str), v), ("firm_count", p)] := by rfl
end
theorem disk_at {d : Nat} {st : Store} {p t : PV} {n : Nat} (h : st[d]? = some (iDisk mg p n t)) : insAt (ad mg "Disk") st (.oh d) = some [(("_power" : Str), p), ("_steps", .int n), ("_tables", t)] := insAt_of h
theorem file_at {d : Nat} {st : Store} {f : Str × Nat} (h : st[d]? = some (iFile mg f)) : insAt (ad mg "DiskFile") st (.oh d) = some [(("text" : Str), .str f.1), ("firm_count", .int (f.2 : Nat))] := insAt_of h
theorem set_app_set {st : Store} {n : Nat} {x y : Ob} (e : Store) (h : n < st.length) : ((st.set n x) ++ e).set n y = (st ++ e).set n y := by
  rw [List.set_append_left _ _ (by simpa using h), List.set_append_left _ _ h, List.set_set]
theorem p_is_passed_integer : ∀ pvs st Q PX, S_is_passed_integer mg pvs st Q PX → t_is_passed_integer K mg (endOf Q PX) (ini N_is_passed_integer pvs) st := by
  rintro pvs st Q PX ⟨v, rfl, hp, hq⟩
  simp only [t_is_passed_integer, sRet, sSeq, sAsg, sIfS, sSkip, sAsgG, sDrop, sRaise, sOp, sCB, sCons, sNil, sVar, sC, sTup, sNeg, sNot, sTest, sNotT, sAndT, sOrT, sAnd, sOr, sIf, sChain, sCall, ini, endOf, kName, kTup2, kTup3, oAdd, oI, oI0, oIs, oType, tyName, isNon_non, isNon_tup, isNon_int, atI_0, atI_1, atI_n, eq2_ii, ne2_ii, List.map_cons, List.map_nil, List.length_cons, List.length_nil, List.cons_append, List.nil_append, List.append_nil, List.replicate_succ, List.replicate_zero, List.getElem?_cons_zero, List.getElem?_cons_succ, List.set_cons_zero, List.set_cons_succ, Bool.false_eq_true, decide_true, decide_false, Bool.not_true, Bool.not_false, ↓reduceIte, Nat.reduceAdd, Nat.reduceSub, Nat.zero_add, Option.isSome, true_and, sAtt, sSetAtt, sMeth, sMake]
  exact ⟨v, 60, rfl, by decide, hp, hq⟩
theorem p_DiskFile___init__ : ∀ pvs st Q PX, S_DiskFile___init__ mg pvs st Q PX → t_DiskFile___init__ K mg (endOf Q PX) (ini N_DiskFile___init__ pvs) st := by
  rintro pvs st Q PX ⟨n, v, w, rfl, h, hq⟩
  simp only [t_DiskFile___init__, sRet, sSeq, sAsg, sIfS, sSkip, sAsgG, sDrop, sRaise, sOp, sCB, sCons, sNil, sVar, sC, sTup, sNeg, sNot, sTest, sNotT, sAndT, sOrT, sAnd, sOr, sIf, sChain, sCall, ini, endOf, kName, kTup2, kTup3, oAdd, oI, oI0, oIs, oType, tyName, isNon_non, isNon_tup, isNon_int, atI_0, atI_1, atI_n, eq2_ii, ne2_ii, List.map_cons, List.map_nil, List.length_cons, List.length_nil, List.cons_append, List.nil_append, List.append_nil, List.replicate_succ, List.replicate_zero, List.getElem?_cons_zero, List.getElem?_cons_succ, List.set_cons_zero, List.set_cons_succ, Bool.false_eq_true, decide_true, decide_false, Bool.not_true, Bool.not_false, ↓reduceIte, Nat.reduceAdd, Nat.reduceSub, Nat.zero_add, Option.isSome, true_and, sAtt, sSetAtt, sMeth, sMake, insAt_of h, fa_0, insAt_of (set_at h), fa_1, List.set_set]
  exact ⟨by decide, by decide, hq⟩
theorem p_Disk_steps : ∀ pvs st Q PX, S_Disk_steps mg pvs st Q PX → t_Disk_steps K mg (endOf Q PX) (ini N_Disk_steps pvs) st := by
  rintro pvs st Q PX ⟨d, p, n, t, rfl, h, hq⟩
  simp only [t_Disk_steps, sRet, sSeq, sAsg, sIfS, sSkip, sAsgG, sDrop, sRaise, sOp, sCB, sCons, sNil, sVar, sC, sTup, sNeg, sNot, sTest, sNotT, sAndT, sOrT, sAnd, sOr, sIf, sChain, sCall, ini, endOf, kName, kTup2, kTup3, oAdd, oI, oI0, oIs, oType, tyName, isNon_non, isNon_tup, isNon_int, atI_0, atI_1, atI_n, eq2_ii, ne2_ii, List.map_cons, List.map_nil, List.length_cons, List.length_nil, List.cons_append, List.nil_append, List.append_nil, List.replicate_succ, List.replicate_zero, List.getElem?_cons_zero, List.getElem?_cons_succ, List.set_cons_zero, List.set_cons_succ, Bool.false_eq_true, decide_true, decide_false, Bool.not_true, Bool.not_false, ↓reduceIte, Nat.reduceAdd, Nat.reduceSub, Nat.zero_add, Option.isSome, true_and, sAtt, sSetAtt, sMeth, sMake, disk_at h, lk_s]
  exact hq
theorem p_Disk__step : ∀ pvs st Q PX, S_Disk__step mg pvs st Q PX → t_Disk__step K mg (endOf Q PX) (ini N_Disk__step pvs) st := by
  rintro pvs st Q PX ⟨d, p, n, t, rfl, h, hn, hb, hq⟩
  simp only [t_Disk__step, sRet, sSeq, sAsg, sIfS, sSkip, sAsgG, sDrop, sRaise, sOp, sCB, sCons, sNil, sVar, sC, sTup, sNeg, sNot, sTest, sNotT, sAndT, sOrT, sAnd, sOr, sIf, sChain, sCall, ini, endOf, kName, kTup2, kTup3, oAdd, oI, oI0, oIs, oType, tyName, isNon_non, isNon_tup, isNon_int, atI_0, atI_1, atI_n, eq2_ii, ne2_ii, List.map_cons, List.map_nil, List.length_cons, List.length_nil, List.cons_append, List.nil_append, List.append_nil, List.replicate_succ, List.replicate_zero, List.getElem?_cons_zero, List.getElem?_cons_succ, List.set_cons_zero, List.set_cons_succ, Bool.false_eq_true, decide_true, decide_false, Bool.not_true, Bool.not_false, ↓reduceIte, Nat.reduceAdd, Nat.reduceSub, Nat.zero_add, Option.isSome, true_and, sAtt, sSetAtt, sMeth, sMake, disk_at h, lk_s, lk_p, pa_s]
  cases p with
  | none =>
    refine ⟨rfl, rfl, ?_⟩
    dsimp only
    simp only [PyData.eqv, disk_at h, lk_s, lk_p, pa_s]
    exact ⟨(by show 3 < 1000; decide), hq (by simp)⟩
  | some k =>
    simp only [pwP, eq2_ii]
    by_cases e : n = k
    · subst e
      rw [decide_eq_true rfl]
      simp only [disk_at h, lk_p]
      exact hb rfl
    · rw [decide_eq_false (by omega)]
      simp only [disk_at h, lk_s, pa_s]
      exact ⟨(by show 3 < 1000; decide), hq (fun z => e (Option.some.inj z).symm)⟩
theorem p_Disk__with_names : ∀ pvs st Q PX, S_Disk__with_names mg pvs st Q PX → t_Disk__with_names K mg (endOf Q PX) (ini N_Disk__with_names pvs) st := by
  rintro pvs st Q PX ⟨d, p, n, t, h, l, rfl, hd, ht, hl, hq⟩
  simp only [t_Disk__with_names, sRet, sSeq, sAsg, sIfS, sSkip, sAsgG, sDrop, sRaise, sOp, sCB, sCons, sNil, sVar, sC, sTup, sNeg, sNot, sTest, sNotT, sAndT, sOrT, sAnd, sOr, sIf, sChain, sCall, ini, endOf, kName, kTup2, kTup3, oAdd, oI, oI0, oIs, oType, tyName, isNon_non, isNon_tup, isNon_int, atI_0, atI_1, atI_n, eq2_ii, ne2_ii, List.map_cons, List.map_nil, List.length_cons, List.length_nil, List.cons_append, List.nil_append, List.append_nil, List.replicate_succ, List.replicate_zero, List.getElem?_cons_zero, List.getElem?_cons_succ, List.set_cons_zero, List.set_cons_succ, Bool.false_eq_true, decide_true, decide_false, Bool.not_true, Bool.not_false, ↓reduceIte, Nat.reduceAdd, Nat.reduceSub, Nat.zero_add, Option.isSome, true_and, sAtt, sSetAtt, sMeth, sMake, sApp, disk_at hd, lk_t, ht]
  exact ⟨by omega, hq⟩
theorem p__choice_at : ∀ pvs st Q PX, S__choice_at mg pvs st Q PX → t__choice_at K mg (endOf Q PX) (ini N__choice_at pvs) st := by
  rintro pvs st Q PX ⟨c, i, many, rfl, h1, h2, h3, h4, hq⟩
  simp only [t__choice_at, sRet, sSeq, sAsg, sIfS, sSkip, sAsgG, sDrop, sRaise, sOp, sCB, sCons, sNil, sVar, sC, sTup, sNeg, sNot, sTest, sNotT, sAndT, sOrT, sAnd, sOr, sIf, sChain, sCall, ini, endOf, kName, kTup2, kTup3, oAdd, oI, oI0, oIs, oType, tyName, isNon_non, isNon_tup, isNon_int, atI_0, atI_1, atI_n, eq2_ii, ne2_ii, List.map_cons, List.map_nil, List.length_cons, List.length_nil, List.cons_append, List.nil_append, List.append_nil, List.replicate_succ, List.replicate_zero, List.getElem?_cons_zero, List.getElem?_cons_succ, List.set_cons_zero, List.set_cons_succ, Bool.false_eq_true, decide_true, decide_false, Bool.not_true, Bool.not_false, ↓reduceIte, Nat.reduceAdd, Nat.reduceSub, Nat.zero_add, Option.isSome, true_and, sAtt, sSetAtt, sMeth, sMake, cTup, oLen, oLt, oIx, List.length_map]
  unfold pick at hq
  by_cases e : i < c.length
  · rw [decide_eq_true (by omega)]
    have e1 : c[i]? = some c[i] := List.getElem?_eq_getElem e
    rw [if_pos e] at hq
    simp only [List.getElem?_map, e1, Option.map_some, iNum]
    refine ⟨by show (many : Int) ≠ 0; omega, ?_⟩
    have e2 : c.getD i 0 = c[i] := by simp [e]
    rw [e2] at hq
    have e3 : ((c[i] : Nat) : Int).fmod ((many : Nat) : Int) = ((c[i] % many : Nat) : Int) := by
      rw [Int.fmod_eq_emod_of_nonneg _ (by omega)]
      rfl
    show Q (.int ((c[i] : Int).fmod many)) st
    rw [e3]
    exact hq
  · rw [decide_eq_false (by omega)]
    rw [if_neg e] at hq
    exact hq
theorem p_Disk___init__ : ∀ pvs st Q PX, S_Disk___init__ mg pvs st Q PX → t_Disk___init__ K mg (endOf Q PX) (ini N_Disk___init__ pvs) st := by
  rintro pvs st Q PX ⟨n, p, rfl, h, hc⟩
  have hn := lt_of h
  have tail : (∀ st1 : Store, st1 = (st ++ [Ob.dct [], Ob.lst [.dh st.length]]).set n (iDisk mg p 0 (.hd (st.length + 1))) → Q .non st1) → (sSeq (sSetAtt (ad mg "Disk") "_power" (sVar 0) (sVar 1)) (sSeq (sSetAtt (ad mg "Disk") "_steps" (sVar 0) (sC (.int 0))) (sSetAtt (ad mg "Disk") "_tables" (sVar 0) (sNew (sCons sDNew sNil))))) (endOf Q PX) [some (.oh n), some p] st := by
    intro hq
    simp only [sRet, sSeq, sAsg, sIfS, sSkip, sAsgG, sDrop, sRaise, sOp, sCB, sCons, sNil, sVar, sC, sTup, sNeg, sNot, sTest, sNotT, sAndT, sOrT, sAnd, sOr, sIf, sChain, sCall, ini, endOf, kName, kTup2, kTup3, oAdd, oI, oI0, oIs, oType, tyName, isNon_non, isNon_tup, isNon_int, atI_0, atI_1, atI_n, eq2_ii, ne2_ii, List.map_cons, List.map_nil, List.length_cons, List.length_nil, List.cons_append, List.nil_append, List.append_nil, List.replicate_succ, List.replicate_zero, List.getElem?_cons_zero, List.getElem?_cons_succ, List.set_cons_zero, List.set_cons_succ, Bool.false_eq_true, decide_true, decide_false, Bool.not_true, Bool.not_false, ↓reduceIte, Nat.reduceAdd, Nat.reduceSub, Nat.zero_add, Option.isSome, true_and, sAtt, sSetAtt, sMeth, sMake, sNew, sDNew, insAt_of h, pa_0, insAt_of (set_at h), pa_1, List.set_set]
    refine ⟨by decide, by decide, ?_⟩
    have e1 : ∀ (x : Ob) (e : Store), (st.set n x ++ e)[n]? = some x := fun x e => by
      rw [List.getElem?_append_left (by simpa using hn)]
      exact set_at h
    simp only [List.append_assoc, List.length_set, List.cons_append, List.nil_append, insAt_of (e1 _ _), pa_2, List.length_append, List.length_cons, List.length_nil]
    exact ⟨by decide, by show 2 < 1000; decide, hq _ (set_app_set _ hn)⟩
  rcases hc with ⟨pw, rfl, hp, hq⟩ | ⟨hb, hq⟩
  · have ht := tail (fun st1 e => e ▸ hq)
    cases pw with
    | none =>
      unfold t_Disk___init__
      simp only [sRet, sSeq, sAsg, sIfS, sSkip, sAsgG, sDrop, sRaise, sOp, sCB, sCons, sNil, sVar, sC, sTup, sNeg, sNot, sTest, sNotT, sAndT, sOrT, sAnd, sOr, sIf, sChain, sCall, ini, endOf, kName, kTup2, kTup3, oAdd, oI, oI0, oIs, oType, tyName, isNon_non, isNon_tup, isNon_int, atI_0, atI_1, atI_n, eq2_ii, ne2_ii, List.map_cons, List.map_nil, List.length_cons, List.length_nil, List.cons_append, List.nil_append, List.append_nil, List.replicate_succ, List.replicate_zero, List.getElem?_cons_zero, List.getElem?_cons_succ, List.set_cons_zero, List.set_cons_succ, Bool.false_eq_true, decide_true, decide_false, Bool.not_true, Bool.not_false, ↓reduceIte, Nat.reduceAdd, Nat.reduceSub, Nat.zero_add, Option.isSome, true_and, sAtt, sSetAtt, sMeth, sMake, pwP] at ht ⊢
      exact ht
    | some k =>
      unfold t_Disk___init__
      have hk := hp k rfl
      simp only [sRet, sSeq, sAsg, sIfS, sSkip, sAsgG, sDrop, sRaise, sOp, sCB, sCons, sNil, sVar, sC, sTup, sNeg, sNot, sTest, sNotT, sAndT, sOrT, sAnd, sOr, sIf, sChain, sCall, ini, endOf, kName, kTup2, kTup3, oAdd, oI, oI0, oIs, oType, tyName, isNon_non, isNon_tup, isNon_int, atI_0, atI_1, atI_n, eq2_ii, ne2_ii, List.map_cons, List.map_nil, List.length_cons, List.length_nil, List.cons_append, List.nil_append, List.append_nil, List.replicate_succ, List.replicate_zero, List.getElem?_cons_zero, List.getElem?_cons_succ, List.set_cons_zero, List.set_cons_succ, Bool.false_eq_true, decide_true, decide_false, Bool.not_true, Bool.not_false, ↓reduceIte, Nat.reduceAdd, Nat.reduceSub, Nat.zero_add, Option.isSome, true_and, sAtt, sSetAtt, sMeth, sMake, pwP, isNon_int] at ht ⊢
      refine ⟨.int k, 0, 1000000, rfl, rfl, ?_⟩
      have e : betB 0 1000000 (.int (k : Nat)) = true := by simp [betB]; omega
      rw [e]
      exact ht
  · obtain ⟨k, rfl, hk, _⟩ := hb
    unfold t_Disk___init__
    simp only [sRet, sSeq, sAsg, sIfS, sSkip, sAsgG, sDrop, sRaise, sOp, sCB, sCons, sNil, sVar, sC, sTup, sNeg, sNot, sTest, sNotT, sAndT, sOrT, sAnd, sOr, sIf, sChain, sCall, ini, endOf, kName, kTup2, kTup3, oAdd, oI, oI0, oIs, oType, tyName, isNon_non, isNon_tup, isNon_int, atI_0, atI_1, atI_n, eq2_ii, ne2_ii, List.map_cons, List.map_nil, List.length_cons, List.length_nil, List.cons_append, List.nil_append, List.append_nil, List.replicate_succ, List.replicate_zero, List.getElem?_cons_zero, List.getElem?_cons_succ, List.set_cons_zero, List.set_cons_succ, Bool.false_eq_true, decide_true, decide_false, Bool.not_true, Bool.not_false, ↓reduceIte, Nat.reduceAdd, Nat.reduceSub, Nat.zero_add, Option.isSome, true_and, sAtt, sSetAtt, sMeth, sMake, isNon_int]
    refine ⟨.int k, 0, 1000000, rfl, rfl, ?_⟩
    have e : betB 0 1000000 (.int k) = false := by simp [betB]; omega
    rw [e]
    exact hq
end K5
set_option Elab.async false
set_option linter.all false
set_option maxRecDepth 100000
set_option maxHeartbeats 1000000
namespace K5
open PySem PySem.Spec PyProof.Rows L2 Sm Wm Cm Kt Tm
variable {K : PySem.W.Frag} {mg : Str → Option Value}
theorem atI_last {α : Type} (l : List α) (x : α) (n : Nat) (hl : l.length = n + 1) (h : l[n]? = some x) : atI l (-1) = some x := by
  unfold atI ixN
  rw [if_neg (by omega), if_pos (by omega)]
  have e : ((-1 : Int) + (l.length : Nat)).toNat = n := by omega
  show l[((-1 : Int) + (l.length : Nat)).toNat]? = some x
  rw [e, h]
theorem ix_at {st : Store} {t : Nat} {l : List PV} {i : Int} {x : PV} {P : Sm.PK} (ht : st[t]? = some (.lst l)) (e : atI l i = some x) : oIx (.hd t) (.int i) st P = P x st := by simp only [oIx, ht, e]
theorem din_at {st : Store} {h : Nat} {l : DL} {v : PV} {k : Key} {b : Bool} {P : Sm.PK} (e : dctAt st (.dh h) = some l) (hk : keyP v = some k) : oDIn b v (.dh h) st P = P (.bl (if b then !(getP l k).isSome else (getP l k).isSome)) st := by simp only [oDIn, e, hk]
theorem dix_at {st : Store} {h : Nat} {l : DL} {v u : PV} {k : Key} {P : Sm.PK} (e : dctAt st (.dh h) = some l) (hk : keyP v = some k) (hu : getP l k = some u) : oDIx (.dh h) v st P = P u st := by simp only [oDIx, e, hk, hu]
theorem get_int (g : Nat → PV) (i : Int) : ∀ l : Tb, getP (encT g l) (.inl i) = none
  | [] => rfl
  | p :: r => by
    have ih := get_int g i r
    unfold getP encT at ih ⊢
    simpa using ih
/-- a name is looked up in the names as they stand -/
theorem find_enc (g : Nat → PV) (A : Dk) {v : PV} (hv : okV v) : ∃ k, keyP v = some k ∧ getP (encT g A.cur) k = (find A v).map g := by
  cases v <;> first | exact hv.elim | skip
  · exact ⟨_, rfl, by rw [get_int]; rfl⟩
  · exact ⟨_, rfl, getT_enc _ _ _⟩
theorem curP {st : Store} {L : LP} {A : Dk} (R : RepP mg st L A) : ∃ h, atI (L.tb.map PV.dh) (-1) = some (.dh h) ∧ st[h]? = some (.dct (encT (fOf L.F) A.cur)) ∧ L.tb[A.jr.length]? = some h := by
  have hl := R.ltb
  have e : A.jr.length < L.tb.length := by omega
  have e1 : L.tb[A.jr.length]? = some L.tb[A.jr.length] := List.getElem?_eq_getElem e
  refine ⟨_, atI_last _ _ A.jr.length (by simpa using hl) (by rw [List.getElem?_map, e1]; rfl), ?_, e1⟩
  have := R.tb _ _ e1
  rw [List.take_length] at this
  exact this
theorem dct_at {st : Store} {h : Nat} {l : DL} (e : st[h]? = some (.dct l)) : dctAt st (.dh h) = some l := by simp [dctAt, e]
theorem p_Disk___len__ : ∀ pvs st Q PX, S_Disk___len__ mg pvs st Q PX → t_Disk___len__ K mg (endOf Q PX) (ini N_Disk___len__ pvs) st := by
  rintro pvs st Q PX ⟨L, A, rfl, R, hq⟩
  obtain ⟨h, e1, e2, e3⟩ := curP R
  simp only [t_Disk___len__, sRet, sSeq, sAsg, sIfS, sSkip, sAsgG, sDrop, sRaise, sOp, sCB, sCons, sNil, sVar, sC, sTup, sNeg, sNot, sTest, sNotT, sAndT, sOrT, sAnd, sOr, sIf, sChain, sCall, ini, endOf, kName, kTup2, kTup3, oAdd, oI, oI0, oIs, oType, tyName, isNon_non, isNon_tup, isNon_int, atI_0, atI_1, atI_n, eq2_ii, ne2_ii, List.map_cons, List.map_nil, List.length_cons, List.length_nil, List.cons_append, List.nil_append, List.append_nil, List.replicate_succ, List.replicate_zero, List.getElem?_cons_zero, List.getElem?_cons_succ, List.set_cons_zero, List.set_cons_succ, Bool.false_eq_true, decide_true, decide_false, Bool.not_true, Bool.not_false, ↓reduceIte, Nat.reduceAdd, Nat.reduceSub, Nat.zero_add, Option.isSome, true_and, sAtt, sSetAtt, sMeth, sMake, disk_at R.d, lk_t, ix_at R.t e1, oDLen, dct_at e2, encT_len]
  exact hq
theorem p_Disk___contains__ : ∀ pvs st Q PX, S_Disk___contains__ mg pvs st Q PX → t_Disk___contains__ K mg (endOf Q PX) (ini N_Disk___contains__ pvs) st := by
  rintro pvs st Q PX ⟨L, A, v, rfl, R, hv, hq⟩
  obtain ⟨h, e1, e2, e3⟩ := curP R
  obtain ⟨k, hk, hg⟩ := find_enc (fOf L.F) A hv
  cases v <;> first | exact hv.elim | skip
  · simp only [t_Disk___contains__, sRet, sSeq, sAsg, sIfS, sSkip, sAsgG, sDrop, sRaise, sOp, sCB, sCons, sNil, sVar, sC, sTup, sNeg, sNot, sTest, sNotT, sAndT, sOrT, sAnd, sOr, sIf, sChain, sCall, ini, endOf, kName, kTup2, kTup3, oAdd, oI, oI0, oIs, oType, tyName, isNon_non, isNon_tup, isNon_int, atI_0, atI_1, atI_n, eq2_ii, ne2_ii, List.map_cons, List.map_nil, List.length_cons, List.length_nil, List.cons_append, List.nil_append, List.append_nil, List.replicate_succ, List.replicate_zero, List.getElem?_cons_zero, List.getElem?_cons_succ, List.set_cons_zero, List.set_cons_succ, Bool.false_eq_true, decide_true, decide_false, Bool.not_true, Bool.not_false, ↓reduceIte, Nat.reduceAdd, Nat.reduceSub, Nat.zero_add, Option.isSome, true_and, sAtt, sSetAtt, sMeth, sMake, disk_at R.d, lk_t]
    rw [show decide ("int" = "str") = false from by decide]
    exact hq
  · simp only [t_Disk___contains__, sRet, sSeq, sAsg, sIfS, sSkip, sAsgG, sDrop, sRaise, sOp, sCB, sCons, sNil, sVar, sC, sTup, sNeg, sNot, sTest, sNotT, sAndT, sOrT, sAnd, sOr, sIf, sChain, sCall, ini, endOf, kName, kTup2, kTup3, oAdd, oI, oI0, oIs, oType, tyName, isNon_non, isNon_tup, isNon_int, atI_0, atI_1, atI_n, eq2_ii, ne2_ii, List.map_cons, List.map_nil, List.length_cons, List.length_nil, List.cons_append, List.nil_append, List.append_nil, List.replicate_succ, List.replicate_zero, List.getElem?_cons_zero, List.getElem?_cons_succ, List.set_cons_zero, List.set_cons_succ, Bool.false_eq_true, decide_true, decide_false, Bool.not_true, Bool.not_false, ↓reduceIte, Nat.reduceAdd, Nat.reduceSub, Nat.zero_add, Option.isSome, true_and, sAtt, sSetAtt, sMeth, sMake, disk_at R.d, lk_t, ix_at R.t e1, din_at (dct_at e2) hk, hg]
    cases e : find A (.str _) with
    | none => rw [e] at hq; exact hq
    | some i => rw [e] at hq; exact hq
theorem p_Disk__check_file : ∀ pvs st Q PX, S_Disk__check_file mg pvs st Q PX → t_Disk__check_file K mg (endOf Q PX) (ini N_Disk__check_file pvs) st := by
  rintro pvs st Q PX ⟨L, A, v, rfl, R, hv, h1, h2⟩
  simp only [t_Disk__check_file, sRet, sSeq, sAsg, sIfS, sSkip, sAsgG, sDrop, sRaise, sOp, sCB, sCons, sNil, sVar, sC, sTup, sNeg, sNot, sTest, sNotT, sAndT, sOrT, sAnd, sOr, sIf, sChain, sCall, ini, endOf, kName, kTup2, kTup3, oAdd, oI, oI0, oIs, oType, tyName, isNon_non, isNon_tup, isNon_int, atI_0, atI_1, atI_n, eq2_ii, ne2_ii, List.map_cons, List.map_nil, List.length_cons, List.length_nil, List.cons_append, List.nil_append, List.append_nil, List.replicate_succ, List.replicate_zero, List.getElem?_cons_zero, List.getElem?_cons_succ, List.set_cons_zero, List.set_cons_succ, Bool.false_eq_true, decide_true, decide_false, Bool.not_true, Bool.not_false, ↓reduceIte, Nat.reduceAdd, Nat.reduceSub, Nat.zero_add, Option.isSome, true_and, sAtt, sSetAtt, sMeth, sMake, oInO, disk_at R.d]
  refine ⟨L, A, v, rfl, R, hv, ?_⟩
  dsimp only
  cases e : find A v with
  | none => exact h2 e
  | some i => exact h1 (by rw [e]; rfl)
theorem fOf_at {F : List Nat} {i h : Nat} (e : F[i]? = some h) : fOf F i = .oh h := by simp [fOf, e]
theorem okJ_run {m : Nat} : ∀ (l : List Jn) (T : Tb), okJ m T l → okT (runT T l) m
  | [], T, h => h
  | j :: r, T, h => okJ_run r (app T j) h.2.2
theorem find_lt {A : Dk} {n i : Nat} {v : PV} (W : WF n A) (e : find A v = some i) : i < A.fl.length := by
  cases v <;> first | (cases e; done) | skip
  exact ((okJ_run _ _ W.okj).2.2 _ (getT_some e)).1
theorem fileP {st : Store} {L : LP} {A : Dk} {n i : Nat} {v : PV} (R : RepP mg st L A) (W : WF n A) (e : find A v = some i) : ∃ h f, A.fl[i]? = some f ∧ L.F[i]? = some h ∧ fOf L.F i = .oh h ∧ st[h]? = some (iFile mg f) ∧ A.fl.getD i ("", 0) = f := by
  have hi := find_lt W e
  have hF : i < L.F.length := by rw [R.lF]; exact hi
  have e1 : A.fl[i]? = some A.fl[i] := List.getElem?_eq_getElem hi
  have e2 : L.F[i]? = some L.F[i] := List.getElem?_eq_getElem hF
  exact ⟨_, _, e1, e2, fOf_at e2, R.F _ _ _ e2 e1, by simp [hi]⟩
theorem p_Disk_read : ∀ pvs st Q PX, S_Disk_read mg pvs st Q PX → t_Disk_read K mg (endOf Q PX) (ini N_Disk_read pvs) st := by
  rintro pvs st Q PX ⟨L, A, n, v, rfl, R, W, hv, h1, h2⟩
  obtain ⟨h, e1, e2, e3⟩ := curP R
  obtain ⟨k, hk, hg⟩ := find_enc (fOf L.F) A hv
  simp only [t_Disk_read, sRet, sSeq, sAsg, sIfS, sSkip, sAsgG, sDrop, sRaise, sOp, sCB, sCons, sNil, sVar, sC, sTup, sNeg, sNot, sTest, sNotT, sAndT, sOrT, sAnd, sOr, sIf, sChain, sCall, ini, endOf, kName, kTup2, kTup3, oAdd, oI, oI0, oIs, oType, tyName, isNon_non, isNon_tup, isNon_int, atI_0, atI_1, atI_n, eq2_ii, ne2_ii, List.map_cons, List.map_nil, List.length_cons, List.length_nil, List.cons_append, List.nil_append, List.append_nil, List.replicate_succ, List.replicate_zero, List.getElem?_cons_zero, List.getElem?_cons_succ, List.set_cons_zero, List.set_cons_succ, Bool.false_eq_true, decide_true, decide_false, Bool.not_true, Bool.not_false, ↓reduceIte, Nat.reduceAdd, Nat.reduceSub, Nat.zero_add, Option.isSome, true_and, sAtt, sSetAtt, sMeth, sMake, disk_at R.d]
  refine ⟨rfl, L, A, v, rfl, R, hv, fun hs => ?_, fun hn => h2 hn⟩
  cases e : find A v with
  | none => rw [e] at hs; cases hs
  | some i =>
    obtain ⟨q, f, f1, f2, f3, f4, f5⟩ := fileP R W e
    have hq := h1 i e
    rw [f5] at hq
    simp only [disk_at R.d, lk_t, ix_at R.t e1, dix_at (dct_at e2) hk (hg.trans (by rw [e]; rfl)), f3, file_at f4, fk_t]
    exact hq
theorem p_Disk_names : ∀ pvs st Q PX, S_Disk_names mg pvs st Q PX → t_Disk_names K mg (endOf Q PX) (ini N_Disk_names pvs) st := by
  rintro pvs st Q PX ⟨L, A, n, rfl, R, W, hq⟩
  obtain ⟨h, e1, e2, e3⟩ := curP R
  simp only [t_Disk_names, sRet, sSeq, sAsg, sIfS, sSkip, sAsgG, sDrop, sRaise, sOp, sCB, sCons, sNil, sVar, sC, sTup, sNeg, sNot, sTest, sNotT, sAndT, sOrT, sAnd, sOr, sIf, sChain, sCall, ini, endOf, kName, kTup2, kTup3, oAdd, oI, oI0, oIs, oType, tyName, isNon_non, isNon_tup, isNon_int, atI_0, atI_1, atI_n, eq2_ii, ne2_ii, List.map_cons, List.map_nil, List.length_cons, List.length_nil, List.cons_append, List.nil_append, List.append_nil, List.replicate_succ, List.replicate_zero, List.getElem?_cons_zero, List.getElem?_cons_succ, List.set_cons_zero, List.set_cons_succ, Bool.false_eq_true, decide_true, decide_false, Bool.not_true, Bool.not_false, ↓reduceIte, Nat.reduceAdd, Nat.reduceSub, Nat.zero_add, Option.isSome, true_and, sAtt, sSetAtt, sMeth, sMake, disk_at R.d, lk_t, ix_at R.t e1, oDSort, dct_at e2, strKs_enc]
  have hl := (okJ_run _ _ W.okj).2.1
  refine ⟨by rw [List.length_map]; exact Nat.lt_of_le_of_lt hl (by decide), fun ys hp hs => ?_⟩
  exact hq ys hp hs
theorem empty_app (x : Str) : Str.empty ++ x = x := by
  cases x with
  | mk c =>
    show (⟨#[] ++ c⟩ : Str) = ⟨c⟩
    simp
theorem len_app (a b : Str) : (a ++ b).length = a.length + b.length := by
  show (a.cps ++ b.cps).size = _
  simp [Str.length]
theorem num_len : ∀ k, k < 102 → (Str.ofString (toString ((k : Nat) : Int))).length ≤ 10 := by decide +kernel
theorem p_Disk___str__ : ∀ pvs st Q PX, S_Disk___str__ mg pvs st Q PX → t_Disk___str__ K mg (endOf Q PX) (ini N_Disk___str__ pvs) st := by
  rintro pvs st Q PX ⟨L, A, n, rfl, R, W, hq⟩
  obtain ⟨h, e1, e2, e3⟩ := curP R
  simp only [t_Disk___str__, sRet, sSeq, sAsg, sIfS, sSkip, sAsgG, sDrop, sRaise, sOp, sCB, sCons, sNil, sVar, sC, sTup, sNeg, sNot, sTest, sNotT, sAndT, sOrT, sAnd, sOr, sIf, sChain, sCall, ini, endOf, kName, kTup2, kTup3, oAdd, oI, oI0, oIs, oType, tyName, isNon_non, isNon_tup, isNon_int, atI_0, atI_1, atI_n, eq2_ii, ne2_ii, List.map_cons, List.map_nil, List.length_cons, List.length_nil, List.cons_append, List.nil_append, List.append_nil, List.replicate_succ, List.replicate_zero, List.getElem?_cons_zero, List.getElem?_cons_succ, List.set_cons_zero, List.set_cons_succ, Bool.false_eq_true, decide_true, decide_false, Bool.not_true, Bool.not_false, ↓reduceIte, Nat.reduceAdd, Nat.reduceSub, Nat.zero_add, Option.isSome, true_and, sAtt, sSetAtt, sMeth, sMake, sFs, sJs, sFmt, disk_at R.d, lk_t, lk_s, ix_at R.t e1, oDLen, dct_at e2, encT_len, empty_app, len_app]
  have hl := (okJ_run _ _ W.okj).2.1
  have h1 := num_len A.cur.length (by have : A.cur.length ≤ 8 := hl; omega)
  have h2 := num_len A.steps (by have := W.sl; have := W.le; omega)
  have c1 : (Str.ofString "disk of ").length = 8 := by decide +kernel
  have c2 : (Str.ofString " files, ").length = 8 := by decide +kernel
  have c3 : (Str.ofString " steps").length = 6 := by decide +kernel
  have l1 : ∀ k : Nat, k ≤ 101 → (k : Int).natAbs.log2 < 1920 := fun k hk => by
    show k.log2 < 1920
    rcases Nat.eq_zero_or_pos k with z | z
    · subst z; decide
    · have := (Nat.log2_lt (n := k) (k := 1920) (by omega)).mpr (Nat.lt_of_le_of_lt hk (Nat.lt_of_lt_of_le (by decide : 101 < 2 ^ 10) (Nat.pow_le_pow_right (by decide) (by decide))))
      exact this
  refine ⟨by omega, l1 _ (by have : A.cur.length ≤ 8 := hl; omega), by omega, by omega, l1 _ (by have := W.sl; have := W.le; omega), by omega, by omega, hq⟩
theorem nodup_find {T : Tb} (h : (T.map (·.1)).Nodup) : ∀ p ∈ T, getT T p.1 = some p.2 := by
  induction T with
  | nil => intro p hp; cases hp
  | cons a r ih =>
    intro p hp
    rw [List.map_cons, List.nodup_cons] at h
    unfold getT
    rw [List.find?_cons]
    rcases List.mem_cons.mp hp with rfl | hp
    · simp
    · have ne : ¬ a.1 = p.1 := fun e => h.1 (List.mem_map.mpr ⟨p, hp, e.symm⟩)
      rw [decide_eq_false ne]
      exact ih h.2 p hp
theorem putP_new {acc : DL} {k : Key} {v : PV} (h : k ∉ acc.map (·.1)) : putP acc k v = acc ++ [(k, v)] := by
  unfold putP
  rw [if_neg]
  intro e
  obtain ⟨p, hp, e⟩ := List.any_eq_true.mp e
  exact h (List.mem_map.mpr ⟨p, hp, of_decide_eq_true e⟩)
theorem keys_enc (g : Nat → PV) (T : Tb) : (encT g T).map (fun kv => keyV kv.1) = T.map fun p => PV.str p.1 := by
  unfold encT
  rw [List.map_map]
  rfl
theorem others_loop {st0 : Store} {h : Nat} {o : Obj} {kvs : List (Key × V)} {g : Nat → PV} {T : Tb} {x : Str} {P : PK} {d : PV} (hh : st0[h]? = some (.dck o kvs (encT g T))) (nd : (T.map (·.1)).Nodup) (hl : T.length ≤ 1000)
    (hq : P (.dh st0.length) (st0 ++ [.dct (encT g (dropT T x))])) : ∀ (r done : Tb) (y : Option PV), T = done ++ r →
    compD (fun s => s[h]? = some (.dck o kvs (encT g T))) st0.length (kName 3) (sTest (sOp oNe2 (sVar 3) (sVar 1))) (sVar 3) (sOp oDIx (sVar 2) (sVar 3)) P (r.map fun p => PV.str p.1) [some d, some (.str x), some (.dh h), y] (st0 ++ [.dct (encT g (dropT done x))]) := by
  have hlt := lt_of hh
  have hC : ∀ acc : DL, (st0 ++ [Ob.dct acc])[h]? = some (.dck o kvs (encT g T)) := fun acc => by
    rw [List.getElem?_append_left hlt]
    exact hh
  have hA : ∀ acc : DL, (st0 ++ [Ob.dct acc])[st0.length]? = some (.dct acc) := fun acc => by simp
  intro r
  induction r with
  | nil =>
    intro done y e
    rw [List.append_nil] at e
    subst e
    exact ⟨hC _, hq⟩
  | cons p r ih =>
    intro done y e
    have mem : p ∈ T := by rw [e]; simp
    have next := ih (done ++ [p]) y (by rw [e]; simp)
    have hd : dctAt (st0 ++ [Ob.dct (encT g (dropT done x))]) (.dh h) = some (encT g T) := by simp only [dctAt, hC]
    have hg : getP (encT g T) (.inr p.1) = some (g p.2) := by rw [getT_enc, nodup_find nd p mem]; rfl
    refine ⟨hC _, ?_⟩
    simp only [sRet, sSeq, sAsg, sIfS, sSkip, sAsgG, sDrop, sRaise, sOp, sCB, sCons, sNil, sVar, sC, sTup, sNeg, sNot, sTest, sNotT, sAndT, sOrT, sAnd, sOr, sIf, sChain, sCall, ini, endOf, kName, kTup2, kTup3, oAdd, oI, oI0, oIs, oType, tyName, isNon_non, isNon_tup, isNon_int, atI_0, atI_1, atI_n, eq2_ii, ne2_ii, List.map_cons, List.map_nil, List.length_cons, List.length_nil, List.cons_append, List.nil_append, List.append_nil, List.replicate_succ, List.replicate_zero, List.getElem?_cons_zero, List.getElem?_cons_succ, List.set_cons_zero, List.set_cons_succ, Bool.false_eq_true, decide_true, decide_false, Bool.not_true, Bool.not_false, ↓reduceIte, Nat.reduceAdd, Nat.reduceSub, Nat.zero_add, Option.isSome, true_and, sAtt, sSetAtt, sMeth, sMake, oNe2]
    by_cases hx : p.1 = x
    · have e2 : dropT (done ++ [p]) x = dropT done x := by
        unfold dropT
        rw [List.filter_append]
        simp [hx]
      rw [e2] at next
      rw [decide_eq_true hx]
      exact next
    · have e2 : dropT (done ++ [p]) x = dropT done x ++ [p] := by
        unfold dropT
        rw [List.filter_append]
        simp [hx]
      rw [decide_eq_false hx]
      simp only [Bool.not_false, dix_at hd (v := .str p.1) (k := .inr p.1) rfl hg, keyP, hA]
      have hn : (Sum.inr p.1 : Key) ∉ (encT g (dropT done x)).map (·.1) := by
        intro hm
        unfold encT at hm
        rw [List.map_map] at hm
        obtain ⟨q, hq', e3⟩ := List.mem_map.mp hm
        have e4 : q.1 = p.1 := Sum.inr.inj e3
        have hq2 : q ∈ done := (List.mem_filter.mp hq').1
        rw [e, List.map_append, List.map_cons] at nd
        have := (List.nodup_append.mp nd).2.2 q.1 (List.mem_map.mpr ⟨q, hq2, rfl⟩) p.1 (by simp)
        exact this e4
      rw [putP_new hn, List.set_append_right _ _ (Nat.le_refl _), Nat.sub_self, List.set_cons_zero]
      have e5 : encT g (dropT done x) ++ [((Sum.inr p.1 : Key), g p.2)] = encT g (dropT (done ++ [p]) x) := by
        rw [e2]
        simp [encT]
      rw [e5]
      refine ⟨?_, next⟩
      rw [encT_len]
      have : (dropT done x).length ≤ done.length := List.length_filter_le _ _
      have : done.length ≤ T.length := by rw [e]; simp
      omega
theorem p_Disk__other_names : ∀ pvs st Q PX, S_Disk__other_names mg pvs st Q PX → t_Disk__other_names K mg (endOf Q PX) (ini N_Disk__other_names pvs) st := by
  rintro pvs st Q PX ⟨L, A, n, x, rfl, R, ok, hq⟩
  obtain ⟨h, e1, e2, e3⟩ := curP R
  simp only [t_Disk__other_names, sRet, sSeq, sAsg, sIfS, sSkip, sAsgG, sDrop, sRaise, sOp, sCB, sCons, sNil, sVar, sC, sTup, sNeg, sNot, sTest, sNotT, sAndT, sOrT, sAnd, sOr, sIf, sChain, sCall, ini, endOf, kName, kTup2, kTup3, oAdd, oI, oI0, oIs, oType, tyName, isNon_non, isNon_tup, isNon_int, atI_0, atI_1, atI_n, eq2_ii, ne2_ii, List.map_cons, List.map_nil, List.length_cons, List.length_nil, List.cons_append, List.nil_append, List.append_nil, List.replicate_succ, List.replicate_zero, List.getElem?_cons_zero, List.getElem?_cons_succ, List.set_cons_zero, List.set_cons_succ, Bool.false_eq_true, decide_true, decide_false, Bool.not_true, Bool.not_false, ↓reduceIte, Nat.reduceAdd, Nat.reduceSub, Nat.zero_add, Option.isSome, true_and, sAtt, sSetAtt, sMeth, sMake, disk_at R.d, lk_t, ix_at R.t e1, sLockE]
  refine ⟨h, _, e2, fun o kvs => ?_⟩
  have hs := set_at (o' := .dck o kvs (encT (fOf L.F) A.cur)) e2
  simp only [sDcI, sIKeys, sRet, sSeq, sAsg, sIfS, sSkip, sAsgG, sDrop, sRaise, sOp, sCB, sCons, sNil, sVar, sC, sTup, sNeg, sNot, sTest, sNotT, sAndT, sOrT, sAnd, sOr, sIf, sChain, sCall, ini, endOf, kName, kTup2, kTup3, oAdd, oI, oI0, oIs, oType, tyName, isNon_non, isNon_tup, isNon_int, atI_0, atI_1, atI_n, eq2_ii, ne2_ii, List.map_cons, List.map_nil, List.length_cons, List.length_nil, List.cons_append, List.nil_append, List.append_nil, List.replicate_succ, List.replicate_zero, List.getElem?_cons_zero, List.getElem?_cons_succ, List.set_cons_zero, List.set_cons_succ, Bool.false_eq_true, decide_true, decide_false, Bool.not_true, Bool.not_false, ↓reduceIte, Nat.reduceAdd, Nat.reduceSub, Nat.zero_add, Option.isSome, true_and, sAtt, sSetAtt, sMeth, sMake, hs, keys_enc]
  have := others_loop (st0 := st.set h (.dck o kvs (encT (fOf L.F) A.cur))) (x := x) (d := .oh L.d) (P := fun v st1 => st1[h]? = some (Ob.dck o kvs (encT (fOf L.F) A.cur)) ∧ Q v (List.set st1 h (Ob.dct (encT (fOf L.F) A.cur)))) hs ok.1 (Nat.le_trans ok.2.1 (by decide)) ?_ A.cur [] none rfl
  · exact this
  · refine ⟨by rw [List.getElem?_append_left (lt_of hs)]; exact hs, ?_⟩
    rw [List.set_append_left _ _ (lt_of hs), List.set_set]
    have e4 : st.set h (.dct (encT (fOf L.F) A.cur)) = st := by
      obtain ⟨hlt, e⟩ := List.getElem?_eq_some_iff.mp e2
      rw [← e]
      exact List.set_getElem_self hlt
    rw [e4, List.length_set]
    exact hq
end K5
set_option Elab.async false
set_option linter.all false
set_option maxRecDepth 100000
set_option maxHeartbeats 1000000
namespace K5
open PySem PySem.Spec PyProof.Rows L2 Sm Wm Cm Kt Tm
variable {K : PySem.W.Frag} {mg : Str → Option Value}
def prB : PV → Bool
  | .str s => !decide (s.cps.toList < (" " : Str).cps.toList) && !decide (("~" : Str).cps.toList < s.cps.toList)
  | _ => false
theorem print_all (s : Str) : (signsOf s).all prB = printB s := by
  unfold signsOf printB
  rw [List.all_map]
  rfl
theorem p_is_printable : ∀ pvs st Q PX, S_is_printable mg pvs st Q PX → t_is_printable K mg (endOf Q PX) (ini N_is_printable pvs) st := by
  rintro pvs st Q PX ⟨x, rfl, hl, hq⟩
  simp only [t_is_printable, sRet, sSeq, sAsg, sIfS, sSkip, sAsgG, sDrop, sRaise, sOp, sCB, sCons, sNil, sVar, sC, sTup, sNeg, sNot, sTest, sNotT, sAndT, sOrT, sAnd, sOr, sIf, sChain, sCall, ini, endOf, kName, kTup2, kTup3, oAdd, oI, oI0, oIs, oType, tyName, isNon_non, isNon_tup, isNon_int, atI_0, atI_1, atI_n, eq2_ii, ne2_ii, List.map_cons, List.map_nil, List.length_cons, List.length_nil, List.cons_append, List.nil_append, List.append_nil, List.replicate_succ, List.replicate_zero, List.getElem?_cons_zero, List.getElem?_cons_succ, List.set_cons_zero, List.set_cons_succ, Bool.false_eq_true, decide_true, decide_false, Bool.not_true, Bool.not_false, ↓reduceIte, Nat.reduceAdd, Nat.reduceSub, Nat.zero_add, Option.isSome, true_and, sAtt, sSetAtt, sMeth, sMake, sLc, itemsS, wipeE]
  refine comp_bools prB (signsOf x) [] _ (get_end st _) (by have : x.cps.size ≤ 1000 := hl; simp [signsOf]; omega) (fun y hy st P PX hp => ?_) ?_
  · obtain ⟨c, _, rfl⟩ := List.mem_map.mp hy
    simp only [sRet, sSeq, sAsg, sIfS, sSkip, sAsgG, sDrop, sRaise, sOp, sCB, sCons, sNil, sVar, sC, sTup, sNeg, sNot, sTest, sNotT, sAndT, sOrT, sAnd, sOr, sIf, sChain, sCall, ini, endOf, kName, kTup2, kTup3, oAdd, oI, oI0, oIs, oType, tyName, isNon_non, isNon_tup, isNon_int, atI_0, atI_1, atI_n, eq2_ii, ne2_ii, List.map_cons, List.map_nil, List.length_cons, List.length_nil, List.cons_append, List.nil_append, List.append_nil, List.replicate_succ, List.replicate_zero, List.getElem?_cons_zero, List.getElem?_cons_succ, List.set_cons_zero, List.set_cons_succ, Bool.false_eq_true, decide_true, decide_false, Bool.not_true, Bool.not_false, ↓reduceIte, Nat.reduceAdd, Nat.reduceSub, Nat.zero_add, Option.isSome, true_and, sAtt, sSetAtt, sMeth, sMake, oLeS, oS0]
    have hp' : P (.bl (!decide ([c] < (" " : Str).cps.toList) && !decide (("~" : Str).cps.toList < [c]))) st := hp
    cases h1 : (!decide ([c] < (" " : Str).cps.toList)) with
    | true =>
      rw [h1] at hp'
      exact hp'
    | false =>
      rw [h1] at hp'
      exact hp'
  · rw [set_end]
    simp only [oAllH, get_end, List.nil_append, allB_map, sRet, sSeq, sAsg, sIfS, sSkip, sAsgG, sDrop, sRaise, sOp, sCB, sCons, sNil, sVar, sC, sTup, sNeg, sNot, sTest, sNotT, sAndT, sOrT, sAnd, sOr, sIf, sChain, sCall, ini, endOf, kName, kTup2, kTup3, oAdd, oI, oI0, oIs, oType, tyName, isNon_non, isNon_tup, isNon_int, atI_0, atI_1, atI_n, eq2_ii, ne2_ii, List.map_cons, List.map_nil, List.length_cons, List.length_nil, List.cons_append, List.nil_append, List.append_nil, List.replicate_succ, List.replicate_zero, List.getElem?_cons_zero, List.getElem?_cons_succ, List.set_cons_zero, List.set_cons_succ, Bool.false_eq_true, decide_true, decide_false, Bool.not_true, Bool.not_false, ↓reduceIte, Nat.reduceAdd, Nat.reduceSub, Nat.zero_add, Option.isSome, true_and, sAtt, sSetAtt, sMeth, sMake]
    rw [print_all]
    exact hq _ ⟨_, rfl⟩
theorem p__is_text : ∀ pvs st Q PX, S__is_text mg pvs st Q PX → t__is_text K mg (endOf Q PX) (ini N__is_text pvs) st := by
  rintro pvs st Q PX ⟨v, rfl, ht, hl, hq⟩
  have e0 : Ext st st := ⟨[], by simp⟩
  cases v <;> first | exact (Bool.noConfusion ht) | skip
  case str x =>
    have h300 := hl x rfl
    simp only [t__is_text, sRet, sSeq, sAsg, sIfS, sSkip, sAsgG, sDrop, sRaise, sOp, sCB, sCons, sNil, sVar, sC, sTup, sNeg, sNot, sTest, sNotT, sAndT, sOrT, sAnd, sOr, sIf, sChain, sCall, ini, endOf, kName, kTup2, kTup3, oAdd, oI, oI0, oIs, oType, tyName, isNon_non, isNon_tup, isNon_int, atI_0, atI_1, atI_n, eq2_ii, ne2_ii, List.map_cons, List.map_nil, List.length_cons, List.length_nil, List.cons_append, List.nil_append, List.append_nil, List.replicate_succ, List.replicate_zero, List.getElem?_cons_zero, List.getElem?_cons_succ, List.set_cons_zero, List.set_cons_succ, Bool.false_eq_true, decide_true, decide_false, Bool.not_true, Bool.not_false, ↓reduceIte, Nat.reduceAdd, Nat.reduceSub, Nat.zero_add, Option.isSome, true_and, sAtt, sSetAtt, sMeth, sMake, sRepl]
    have hlen : (Txt.replace x "\n" "").length ≤ x.length + (x.length + 1) * 0 := TK.replace_len x "\n" ""
    refine ⟨by have : (Str.ofString "").length = 0 := rfl; rw [this]; omega, _, rfl, by omega, fun st' e => hq st' e⟩
  all_goals
    simp only [t__is_text, sRet, sSeq, sAsg, sIfS, sSkip, sAsgG, sDrop, sRaise, sOp, sCB, sCons, sNil, sVar, sC, sTup, sNeg, sNot, sTest, sNotT, sAndT, sOrT, sAnd, sOr, sIf, sChain, sCall, ini, endOf, kName, kTup2, kTup3, oAdd, oI, oI0, oIs, oType, tyName, isNon_non, isNon_tup, isNon_int, atI_0, atI_1, atI_n, eq2_ii, ne2_ii, List.map_cons, List.map_nil, List.length_cons, List.length_nil, List.cons_append, List.nil_append, List.append_nil, List.replicate_succ, List.replicate_zero, List.getElem?_cons_zero, List.getElem?_cons_succ, List.set_cons_zero, List.set_cons_succ, Bool.false_eq_true, decide_true, decide_false, Bool.not_true, Bool.not_false, ↓reduceIte, Nat.reduceAdd, Nat.reduceSub, Nat.zero_add, Option.isSome, true_and, sAtt, sSetAtt, sMeth, sMake]
    exact hq st e0
def chB (v : PV) : Bool := match v with
  | .int i => fewB 60 (.int i) && decide (0 ≤ i)
  | _ => false
theorem compC_bools {i n : Nat} {f : Sem} {ρ : Sm.Env} {P : Sm.PK} (g : PV → Bool) : ∀ (l acc : List PV) (st : Store), st[n]? = some (.lst acc) → acc.length + l.length < 100000 →
    (∀ x ∈ l, ∀ (st : Store) (P : Sm.PK) (PX : Sm.XP), P (.bl (g x)) st → f (ρ.set i (some x)) st P PX) → P (.hd n) (st.set n (.lst (acc ++ l.map fun x => .bl (g x)))) → compC any n (kName i) sYes f P l ρ st
  | [], acc, st, hn, hl, hf, hp => by
    obtain ⟨hlt, e⟩ := List.getElem?_eq_some_iff.mp hn
    rw [List.map_nil, List.append_nil, ← e, List.set_getElem_self hlt] at hp
    exact ⟨trivial, hp⟩
  | x :: r, acc, st, hn, hl, hf, hp => by
    refine ⟨trivial, ?_⟩
    simp only [kName, sYes]
    refine hf x (List.mem_cons_self ..) st _ _ ?_
    simp only [hn]
    simp only [List.length_cons] at hl
    refine ⟨by omega, ?_⟩
    refine compC_bools g r (acc ++ [.bl (g x)]) _ (by rw [List.getElem?_set_self (lt_of hn)]) (by simp; omega) (fun y hy => hf y (List.mem_cons_of_mem _ hy)) ?_
    rw [List.set_set, List.append_assoc]
    exact hp
theorem p__are_choices : ∀ pvs st Q PX, S__are_choices mg pvs st Q PX → t__are_choices K mg (endOf Q PX) (ini N__are_choices pvs) st := by
  rintro pvs st Q PX ⟨v, rfl, ht, hl, hq⟩
  have e0 : Ext st st := ⟨[], by simp⟩
  cases v <;> first | exact (Bool.noConfusion ht) | skip
  case tup l =>
    have hl := hl l rfl
    simp only [t__are_choices, sRet, sSeq, sAsg, sIfS, sSkip, sAsgG, sDrop, sRaise, sOp, sCB, sCons, sNil, sVar, sC, sTup, sNeg, sNot, sTest, sNotT, sAndT, sOrT, sAnd, sOr, sIf, sChain, sCall, ini, endOf, kName, kTup2, kTup3, oAdd, oI, oI0, oIs, oType, tyName, isNon_non, isNon_tup, isNon_int, atI_0, atI_1, atI_n, eq2_ii, ne2_ii, List.map_cons, List.map_nil, List.length_cons, List.length_nil, List.cons_append, List.nil_append, List.append_nil, List.replicate_succ, List.replicate_zero, List.getElem?_cons_zero, List.getElem?_cons_succ, List.set_cons_zero, List.set_cons_succ, Bool.false_eq_true, decide_true, decide_false, Bool.not_true, Bool.not_false, ↓reduceIte, Nat.reduceAdd, Nat.reduceSub, Nat.zero_add, Option.isSome, true_and, sAtt, sSetAtt, sMeth, sMake, sLcI, sISeq, wipeE]
    refine compC_bools chB l [] _ (get_end st _) (by simp; omega) (fun y hy st P PX hp => ?_) ?_
    · simp only [sRet, sSeq, sAsg, sIfS, sSkip, sAsgG, sDrop, sRaise, sOp, sCB, sCons, sNil, sVar, sC, sTup, sNeg, sNot, sTest, sNotT, sAndT, sOrT, sAnd, sOr, sIf, sChain, sCall, ini, endOf, kName, kTup2, kTup3, oAdd, oI, oI0, oIs, oType, tyName, isNon_non, isNon_tup, isNon_int, atI_0, atI_1, atI_n, eq2_ii, ne2_ii, List.map_cons, List.map_nil, List.length_cons, List.length_nil, List.cons_append, List.nil_append, List.append_nil, List.replicate_succ, List.replicate_zero, List.getElem?_cons_zero, List.getElem?_cons_succ, List.set_cons_zero, List.set_cons_succ, Bool.false_eq_true, decide_true, decide_false, Bool.not_true, Bool.not_false, ↓reduceIte, Nat.reduceAdd, Nat.reduceSub, Nat.zero_add, Option.isSome, true_and, sAtt, sSetAtt, sMeth, sMake]
      have hy2 : plainB y = true := List.all_eq_true.mp ht y hy
      refine ⟨y, rfl, hy2, ?_⟩
      cases y <;> first | exact hp | skip
      rename_i i
      have hp' : P (.bl (fewB 60 (.int i) && decide (0 ≤ i))) st := hp
      cases h1 : fewB 60 (.int i) with
      | true =>
        rw [h1] at hp'
        exact hp'
      | false =>
        rw [h1] at hp'
        exact hp'
    · rw [set_end]
      simp only [oAllH, get_end, List.nil_append, allB_map, sRet, sSeq, sAsg, sIfS, sSkip, sAsgG, sDrop, sRaise, sOp, sCB, sCons, sNil, sVar, sC, sTup, sNeg, sNot, sTest, sNotT, sAndT, sOrT, sAnd, sOr, sIf, sChain, sCall, ini, endOf, kName, kTup2, kTup3, oAdd, oI, oI0, oIs, oType, tyName, isNon_non, isNon_tup, isNon_int, atI_0, atI_1, atI_n, eq2_ii, ne2_ii, List.map_cons, List.map_nil, List.length_cons, List.length_nil, List.cons_append, List.nil_append, List.append_nil, List.replicate_succ, List.replicate_zero, List.getElem?_cons_zero, List.getElem?_cons_succ, List.set_cons_zero, List.set_cons_succ, Bool.false_eq_true, decide_true, decide_false, Bool.not_true, Bool.not_false, ↓reduceIte, Nat.reduceAdd, Nat.reduceSub, Nat.zero_add, Option.isSome, true_and, sAtt, sSetAtt, sMeth, sMake]
      exact hq _ ⟨_, rfl⟩
  all_goals
    simp only [t__are_choices, sRet, sSeq, sAsg, sIfS, sSkip, sAsgG, sDrop, sRaise, sOp, sCB, sCons, sNil, sVar, sC, sTup, sNeg, sNot, sTest, sNotT, sAndT, sOrT, sAnd, sOr, sIf, sChain, sCall, ini, endOf, kName, kTup2, kTup3, oAdd, oI, oI0, oIs, oType, tyName, isNon_non, isNon_tup, isNon_int, atI_0, atI_1, atI_n, eq2_ii, ne2_ii, List.map_cons, List.map_nil, List.length_cons, List.length_nil, List.cons_append, List.nil_append, List.append_nil, List.replicate_succ, List.replicate_zero, List.getElem?_cons_zero, List.getElem?_cons_succ, List.set_cons_zero, List.set_cons_succ, Bool.false_eq_true, decide_true, decide_false, Bool.not_true, Bool.not_false, ↓reduceIte, Nat.reduceAdd, Nat.reduceSub, Nat.zero_add, Option.isSome, true_and, sAtt, sSetAtt, sMeth, sMake]
    exact hq st e0
end K5
set_option Elab.async false
set_option linter.all false
set_option maxRecDepth 100000
set_option maxHeartbeats 1000000
namespace K5
open PySem PySem.Spec PyProof.Rows L2 Sm Wm Cm Kt Tm
variable {K : PySem.W.Frag} {mg : Str → Option Value}
theorem Kp.refl (M : List Nat) (st : Store) : Kp M st st := ⟨Nat.le_refl _, fun _ _ _ => rfl⟩
theorem Kp.trans {M N : List Nat} {a b c : Store} (h1 : Kp M a b) (h2 : Kp N b c) (hN : ∀ i ∈ N, i < a.length → i ∈ M) : Kp M a c :=
  ⟨Nat.le_trans h1.1 h2.1, fun i hi hm => by
    rw [h2.2 i (Nat.lt_of_lt_of_le hi h1.1) (fun hn => hm (hN i hn hi)), h1.2 i hi hm]⟩
theorem Kp.mono {M N : List Nat} {a b : Store} (h : Kp M a b) (hN : ∀ i ∈ M, i ∈ N) : Kp N a b := ⟨h.1, fun i hi hn => h.2 i hi (fun hm => hn (hN i hm))⟩
theorem Kp.set {st : Store} {n : Nat} {o : Ob} {M : List Nat} (h : n ∈ M) : Kp M st (st.set n o) := ⟨by simp, fun i hi hm => by
  rw [List.getElem?_set_ne (show n ≠ i from fun e => hm (e ▸ h))]⟩
theorem Kp.ext {st e : Store} {M : List Nat} : Kp M st (st ++ e) := ⟨by simp, fun i hi _ => List.getElem?_append_left hi⟩
theorem Kp.at {M : List Nat} {a b : Store} {n : Nat} {o : Ob} (h : Kp M a b) (e : a[n]? = some o) (hn : n ∉ M) : b[n]? = some o := by
  rw [h.2 n (lt_of e) hn]
  exact e
theorem kp_of_ext {a b : Store} {M : List Nat} (h : Ext a b) : Kp M a b := by
  obtain ⟨e, rfl⟩ := h
  exact Kp.ext
/-- a disk that is not touched stays -/
theorem RepP.keep {a b : Store} {L : LP} {A : Dk} {M : List Nat} (R : RepP mg a L A) (h : Kp M a b) (hM : ∀ i ∈ L.hs, i ∉ M) : RepP mg b L A where
  d := h.at R.d (hM _ (by simp [LP.hs]))
  t := h.at R.t (hM _ (by simp [LP.hs]))
  ltb := R.ltb
  tb := fun i q e => h.at (R.tb i q e) (hM _ (by simp only [LP.hs, List.mem_cons, List.mem_append]; exact .inr (.inr (.inl (List.mem_of_getElem? e)))))
  lF := R.lF
  F := fun i q f e1 e2 => h.at (R.F i q f e1 e2) (hM _ (by simp only [LP.hs, List.mem_cons, List.mem_append]; exact .inr (.inr (.inr (List.mem_of_getElem? e1)))))
  nF := R.nF
theorem RepL.keep {a b : Store} {L : LL} {A : Dk} {M : List Nat} (R : RepL a L A) (h : Kp M a b) (hM : ∀ i ∈ L.hs, i ∉ M) : RepL b L A where
  o := h.at R.o (hM _ (by simp [LL.hs]))
  n0 := h.at R.n0 (hM _ (by simp [LL.hs]))
  j := h.at R.j (hM _ (by simp [LL.hs]))
  f := h.at R.f (hM _ (by simp [LL.hs]))
  lh := R.lh
  h := fun i q f e1 e2 => h.at (R.h i q f e1 e2) (hM _ (by simp only [LL.hs, List.mem_cons]; exact .inr (.inr (.inr (.inr (List.mem_of_getElem? e1))))))
  nh := R.nh
  ne := R.ne
theorem RepP.tick {st : Store} {L : LP} {A : Dk} (R : RepP mg st L A) : RepP mg (st.set L.d (iDisk mg (pwP A.pow) (A.steps + 1) (.hd L.t))) L A.tick where
  d := set_at R.d
  t := by rw [set_ne]; exact R.t; intro e; have := R.t; rw [← e, R.d] at this; cases this
  ltb := R.ltb
  tb := fun i q e => by
    rw [set_ne]
    · exact R.tb i q e
    · intro z; have := R.tb i q e; rw [← z, R.d] at this; cases this
  lF := R.lF
  F := fun i q f e1 e2 => by
    rw [set_ne]
    · exact R.F i q f e1 e2
    · intro z
      have := R.F i q f e1 e2
      rw [← z, R.d] at this
      unfold iDisk iFile at this
      injection this with h1
      injection h1 with h2 h3
      injection h3 with h4 h5
      cases h5
  nF := R.nF
theorem find_tick {A : Dk} {v : PV} : find A.tick v = find A v := rfl
theorem WF.tick {n : Nat} {A : Dk} (W : WF n A) (h1 : n + 1 ≤ 101) (h : A.pow ≠ some A.steps) : WF (n + 1) A.tick where
  le := h1
  okj := W.okj
  jl := Nat.le_trans W.jl (Nat.le_succ _)
  fll := by have := W.fll; show A.fl.length ≤ n + 1 + 8; omega
  sl := by have := W.sl; show A.steps + 1 ≤ n + 1; omega
  pw := fun p hp => by
    have h2 := W.pw p hp
    have : p ≠ A.steps := fun e => h (by rw [← e]; exact hp)
    exact ⟨by show A.steps + 1 ≤ p; omega, h2.2⟩
  fb := fun f hf => by have := W.fb f hf; exact ⟨this.1, by omega⟩
/-- a file gets another text, another count -/
theorem RepP.file {st : Store} {L : LP} {A : Dk} {i h : Nat} {f : Str × Nat} (R : RepP mg st L A) (e1 : L.F[i]? = some h) (e2 : A.fl[i]? = some f) (g : Str × Nat → Str × Nat) : RepP mg (st.set h (iFile mg (g f))) L { A with fl := A.fl.modify i g } where
  d := by
    rw [set_ne]
    · exact R.d
    · intro z
      have := R.F i h f e1 e2
      rw [z, R.d] at this
      unfold iDisk iFile at this
      injection this with h1
      injection h1 with h2 h3
      injection h3 with h4 h5
      cases h5
  t := by
    rw [set_ne]
    · exact R.t
    · intro z
      have := R.F i h f e1 e2
      rw [z, R.t] at this
      cases this
  ltb := R.ltb
  tb := fun k q e => by
    rw [set_ne]
    · exact R.tb k q e
    · intro z
      have := R.F i h f e1 e2
      rw [z, R.tb k q e] at this
      cases this
  lF := by rw [List.length_modify]; exact R.lF
  F := fun k q f' e3 e4 => by
    rw [List.getElem?_modify] at e4
    by_cases hk : i = k
    · subst hk
      rw [e1] at e3
      cases e3
      rw [e2] at e4
      simp at e4
      subst e4
      exact set_at (R.F i h f e1 e2)
    · rw [set_ne]
      · apply R.F k q f' e3
        cases e5 : A.fl[k]? with
        | none => rw [e5] at e4; cases e4
        | some u =>
          rw [e5] at e4
          simpa [hk] using e4
      · intro z
        subst z
        exact hk (nodup_get R.nF e1 e3)
  nF := R.nF
theorem mem_d (L : LP) : L.d ∈ L.hs := by simp [LP.hs]
theorem mem_t (L : LP) : L.t ∈ L.hs := by simp [LP.hs]
theorem mem_F {L : LP} {i h : Nat} (e : L.F[i]? = some h) : h ∈ L.hs := by
  simp only [LP.hs, List.mem_cons, List.mem_append]
  exact .inr (.inr (.inr (List.mem_of_getElem? e)))
theorem near_refl (M : List Nat) (st : Store) : Near M M st := fun i h => .inl h
/-- the disk told that no power is left -/
theorem out_of {A : Dk} (h : A.pow = some A.steps) : A.out = true := decide_eq_true h
theorem out_not {A : Dk} (h : A.pow ≠ some A.steps) : A.out = false := decide_eq_false h
theorem p_Disk_sync : ∀ pvs st Q PX, S_Disk_sync mg pvs st Q PX → t_Disk_sync K mg (endOf Q PX) (ini N_Disk_sync pvs) st := by
  rintro pvs st Q PX ⟨L, A, n, v, rfl, R, W, hv, hE⟩
  simp only [t_Disk_sync, sRet, sSeq, sAsg, sIfS, sSkip, sAsgG, sDrop, sRaise, sOp, sCB, sCons, sNil, sVar, sC, sTup, sNeg, sNot, sTest, sNotT, sAndT, sOrT, sAnd, sOr, sIf, sChain, sCall, ini, endOf, kName, kTup2, kTup3, oAdd, oI, oI0, oIs, oType, tyName, isNon_non, isNon_tup, isNon_int, atI_0, atI_1, atI_n, eq2_ii, ne2_ii, List.map_cons, List.map_nil, List.length_cons, List.length_nil, List.cons_append, List.nil_append, List.append_nil, List.replicate_succ, List.replicate_zero, List.getElem?_cons_zero, List.getElem?_cons_succ, List.set_cons_zero, List.set_cons_succ, Bool.false_eq_true, decide_true, decide_false, Bool.not_true, Bool.not_false, ↓reduceIte, Nat.reduceAdd, Nat.reduceSub, Nat.zero_add, Option.isSome, true_and, sAtt, sSetAtt, sMeth, sMake, disk_at R.d]
  unfold opSync at hE
  refine ⟨rfl, L, A, v, rfl, R, hv, fun hs => ?_, fun hn => ?_⟩
  · simp only [disk_at R.d]
    obtain ⟨i, hi⟩ := Option.isSome_iff_exists.mp hs
    rw [hi] at hE
    refine ⟨rfl, L.d, A.pow, A.steps, _, rfl, R.d, by have := W.sl; have := W.le; omega, fun hp => ?_, fun hp => ?_⟩
    · simp only [out_of hp, if_true] at hE
      exact hE _ _ rfl (Kp.refl _ _)
    · have R1 := R.tick
      obtain ⟨h, e1, e2, e3⟩ := curP R1
      obtain ⟨k, hk, hg⟩ := find_enc (fOf L.F) A.tick hv
      obtain ⟨q, f, f1, f2, f3, f4, f5⟩ := fileP (L := L) (A := A) R W hi
      have f4' := R1.F i q f f2 f1
      simp only [out_not hp, Bool.false_eq_true, if_false] at hE
      simp only [disk_at R1.d, lk_t, ix_at R1.t e1, dix_at (dct_at e2) hk (hg.trans (by rw [find_tick, hi]; rfl)), f3, file_at f4', fk_t, oLen, fa_f]
      have hb := (W.fb f (List.mem_of_getElem? f1)).2
      have hn := W.le
      refine ⟨by omega, by show 2 < 1000; decide, ?_⟩
      exact hE L _ (R1.file f2 f1 fun f => (f.1, f.1.length)) rfl (near_refl _ _) ((Kp.set (mem_d L)).trans (Kp.set (mem_F f2)) fun i hi _ => hi)
  · rw [hn] at hE
    exact hE _ _ rfl (Kp.refl _ _)
/-- the names as they are now -/
theorem RepP.push {st : Store} {L : LP} {A : Dk} {j : Jn} (R : RepP mg st L A) {D : DL} (hD : D = encT (fOf L.F) (app A.cur j)) : RepP mg ((st ++ [Ob.dct D]).set L.t (.lst (L.tb.map .dh ++ [.dh st.length]))) { L with tb := L.tb ++ [st.length] } { A with jr := A.jr ++ [j] } where
  d := by
    rw [set_ne]
    · rw [List.getElem?_append_left (lt_of R.d)]; exact R.d
    · intro e; have := R.t; rw [e, R.d] at this; cases this
  t := by
    have : (st ++ [Ob.dct D])[L.t]? = some (.lst (L.tb.map .dh)) := by rw [List.getElem?_append_left (lt_of R.t)]; exact R.t
    rw [set_at this]
    simp
  ltb := by simp [R.ltb]
  tb := fun i q e => by
    have hl := R.ltb
    have hlast : L.tb.length = A.jr.length + 1 := hl
    by_cases hi : i < L.tb.length
    · rw [List.getElem?_append_left hi] at e
      have old := R.tb i q e
      rw [set_ne]
      · rw [List.getElem?_append_left (lt_of old), old, List.take_append_of_le_length (by omega)]
      · intro z; rw [← z, R.t] at old; cases old
    · rw [List.getElem?_append_right (by omega)] at e
      have hi2 : i = L.tb.length := by
        by_cases z : i - L.tb.length = 0
        · omega
        · rw [List.getElem?_eq_none (by simp; omega)] at e
          cases e
      subst hi2
      simp at e
      subst e
      rw [set_ne]
      · rw [get_end, hD]
        have e5 : (A.jr ++ [j]).take L.tb.length = A.jr ++ [j] := List.take_of_length_le (by simp; omega)
        rw [e5]
        unfold runT
        rw [List.foldl_append]
        rfl
      · have := lt_of R.t
        omega
  lF := R.lF
  F := fun i q f e1 e2 => by
    have old := R.F i q f e1 e2
    rw [set_ne]
    · rw [List.getElem?_append_left (lt_of old)]; exact old
    · intro z; rw [← z, R.t] at old; cases old
  nF := R.nF
theorem near_push {L : LP} {st : Store} : Near L.hs ({ L with tb := L.tb ++ [st.length] } : LP).hs st := by
  intro i h
  simp only [LP.hs, List.mem_cons, List.mem_append, List.not_mem_nil, or_false] at h ⊢
  rcases h with h | h | (h | h) | h
  · exact .inl (.inl h)
  · exact .inl (.inr (.inl h))
  · exact .inl (.inr (.inr (.inl h)))
  · exact .inr (by omega)
  · exact .inl (.inr (.inr (.inr h)))
theorem find_txt {A : Dk} {v : PV} {i : Nat} (h : find A v = some i) : ∃ x, v = .str x ∧ getT A.cur x = some i := by
  cases v <;> first | (cases h; done) | skip
  exact ⟨_, rfl, h⟩
/-- table = other names; it is put -/
theorem with_others {st : Store} {L : LP} {A : Dk} {m : Nat} {x : Str} {Q : PK} {PX : XP} {D : DL} (R : RepP mg st L A) (hl : A.jr.length ≤ 900) (hq : Q .non ((st ++ [Ob.dct D]).set L.t (.lst (L.tb.map .dh ++ [.dh st.length])))) : S_Disk__with_names mg [.oh L.d, .dh st.length] (st ++ [Ob.dct D]) Q PX :=
  ⟨L.d, pwP A.pow, A.steps, L.t, st.length, L.tb.map .dh, rfl, by rw [List.getElem?_append_left (lt_of R.d)]; exact R.d, by rw [List.getElem?_append_left (lt_of R.t)]; exact R.t, by rw [List.length_map, R.ltb]; omega, hq⟩
theorem p_Disk_remove : ∀ pvs st Q PX, S_Disk_remove mg pvs st Q PX → t_Disk_remove K mg (endOf Q PX) (ini N_Disk_remove pvs) st := by
  rintro pvs st Q PX ⟨L, A, n, v, m, rfl, R, W, hv, hE⟩
  simp only [t_Disk_remove, sRet, sSeq, sAsg, sIfS, sSkip, sAsgG, sDrop, sRaise, sOp, sCB, sCons, sNil, sVar, sC, sTup, sNeg, sNot, sTest, sNotT, sAndT, sOrT, sAnd, sOr, sIf, sChain, sCall, ini, endOf, kName, kTup2, kTup3, oAdd, oI, oI0, oIs, oType, tyName, isNon_non, isNon_tup, isNon_int, atI_0, atI_1, atI_n, eq2_ii, ne2_ii, List.map_cons, List.map_nil, List.length_cons, List.length_nil, List.cons_append, List.nil_append, List.append_nil, List.replicate_succ, List.replicate_zero, List.getElem?_cons_zero, List.getElem?_cons_succ, List.set_cons_zero, List.set_cons_succ, Bool.false_eq_true, decide_true, decide_false, Bool.not_true, Bool.not_false, ↓reduceIte, Nat.reduceAdd, Nat.reduceSub, Nat.zero_add, Option.isSome, true_and, sAtt, sSetAtt, sMeth, sMake, disk_at R.d]
  unfold opRemove at hE
  refine ⟨rfl, L, A, v, rfl, R, hv, fun hs => ?_, fun hn => ?_⟩
  · simp only [disk_at R.d]
    obtain ⟨i, hi⟩ := Option.isSome_iff_exists.mp hs
    rw [hi] at hE
    refine ⟨rfl, L.d, A.pow, A.steps, _, rfl, R.d, by have := W.sl; have := W.le; omega, fun hp => ?_, fun hp => ?_⟩
    · simp only [out_of hp, if_true] at hE
      exact hE _ _ rfl (Kp.refl _ _)
    · have R1 := R.tick
      simp only [out_not hp, Bool.false_eq_true, if_false] at hE
      simp only [disk_at R1.d]
      obtain ⟨x, rfl, hx⟩ := find_txt hi
      have hj := W.jl
      have hn := W.le
      refine ⟨rfl, rfl, L, A.tick, A.fl.length, x, rfl, R1, okJ_run _ _ W.okj, ?_⟩
      refine with_others (m := 0) (x := x) R1 (by show A.jr.length ≤ 900; omega) ?_
      have R2 := R1.push (j := .remove x m) rfl
      exact hE _ _ R2 rfl (fun i hi => (near_push i hi).imp_right (fun h => by simpa using h)) (((Kp.set (mem_d L)).trans Kp.ext fun i hi _ => hi).trans (Kp.set (mem_t L)) fun i hi _ => hi)
  · rw [hn] at hE
    exact hE _ _ rfl (Kp.refl _ _)
/-- one table stays: the last -/
theorem RepP.flat {st : Store} {L : LP} {A : Dk} {h : Nat} (R : RepP mg st L A) (e : L.tb[A.jr.length]? = some h) : RepP mg ((st ++ [Ob.lst [.dh h]]).set L.d (iDisk mg (pwP A.pow) A.steps (.hd st.length))) { L with t := st.length, tb := [h] } { A with base := A.cur, jr := [] } where
  d := by
    have : (st ++ [Ob.lst [.dh h]])[L.d]? = some (iDisk mg (pwP A.pow) A.steps (.hd L.t)) := by rw [List.getElem?_append_left (lt_of R.d)]; exact R.d
    exact set_at this
  t := by
    rw [set_ne]
    · exact get_end st _
    · have := lt_of R.d; intro z; have z2 : L.d = st.length := z; omega
  ltb := rfl
  tb := fun i q e2 => by
    cases i with
    | succ i => simp at e2
    | zero =>
      simp at e2
      subst e2
      have old := R.tb _ _ e
      rw [List.take_length] at old
      rw [set_ne]
      · rw [List.getElem?_append_left (lt_of old)]
        exact old
      · intro z; rw [← z, R.d] at old; cases old
  lF := R.lF
  F := fun i q f e1 e2 => by
    have old := R.F i q f e1 e2
    rw [set_ne]
    · rw [List.getElem?_append_left (lt_of old)]; exact old
    · intro z
      rw [← z, R.d] at old
      unfold iDisk iFile at old
      injection old with h1
      injection h1 with h2 h3
      injection h3 with h4 h5
      cases h5
  nF := R.nF
theorem p_Disk_sync_names : ∀ pvs st Q PX, S_Disk_sync_names mg pvs st Q PX → t_Disk_sync_names K mg (endOf Q PX) (ini N_Disk_sync_names pvs) st := by
  rintro pvs st Q PX ⟨L, A, n, rfl, R, W, hE⟩
  simp only [t_Disk_sync_names, sRet, sSeq, sAsg, sIfS, sSkip, sAsgG, sDrop, sRaise, sOp, sCB, sCons, sNil, sVar, sC, sTup, sNeg, sNot, sTest, sNotT, sAndT, sOrT, sAnd, sOr, sIf, sChain, sCall, ini, endOf, kName, kTup2, kTup3, oAdd, oI, oI0, oIs, oType, tyName, isNon_non, isNon_tup, isNon_int, atI_0, atI_1, atI_n, eq2_ii, ne2_ii, List.map_cons, List.map_nil, List.length_cons, List.length_nil, List.cons_append, List.nil_append, List.append_nil, List.replicate_succ, List.replicate_zero, List.getElem?_cons_zero, List.getElem?_cons_succ, List.set_cons_zero, List.set_cons_succ, Bool.false_eq_true, decide_true, decide_false, Bool.not_true, Bool.not_false, ↓reduceIte, Nat.reduceAdd, Nat.reduceSub, Nat.zero_add, Option.isSome, true_and, sAtt, sSetAtt, sMeth, sMake, disk_at R.d]
  unfold opNames at hE
  refine ⟨rfl, L.d, A.pow, A.steps, _, rfl, R.d, by have := W.sl; have := W.le; omega, fun hp => ?_, fun hp => ?_⟩
  · simp only [out_of hp, if_true] at hE
    exact hE _ _ rfl (Kp.refl _ _)
  · have R1 := R.tick
    obtain ⟨h, e1, e2, e3⟩ := curP R1
    simp only [out_not hp, Bool.false_eq_true, if_false] at hE
    simp only [disk_at R1.d, lk_t, ix_at R1.t e1, sNew, sRet, sSeq, sAsg, sIfS, sSkip, sAsgG, sDrop, sRaise, sOp, sCB, sCons, sNil, sVar, sC, sTup, sNeg, sNot, sTest, sNotT, sAndT, sOrT, sAnd, sOr, sIf, sChain, sCall, ini, endOf, kName, kTup2, kTup3, oAdd, oI, oI0, oIs, oType, tyName, isNon_non, isNon_tup, isNon_int, atI_0, atI_1, atI_n, eq2_ii, ne2_ii, List.map_cons, List.map_nil, List.length_cons, List.length_nil, List.cons_append, List.nil_append, List.append_nil, List.replicate_succ, List.replicate_zero, List.getElem?_cons_zero, List.getElem?_cons_succ, List.set_cons_zero, List.set_cons_succ, Bool.false_eq_true, decide_true, decide_false, Bool.not_true, Bool.not_false, ↓reduceIte, Nat.reduceAdd, Nat.reduceSub, Nat.zero_add, Option.isSome, true_and, sAtt, sSetAtt, sMeth, sMake]
    have ed : (List.set st L.d (iDisk mg (pwP A.pow) (A.steps + 1) (PV.hd L.t)) ++ [Ob.lst [PV.dh h]])[L.d]? = some (iDisk mg (pwP A.pow) (A.steps + 1) (.hd L.t)) := by
      rw [List.getElem?_append_left (lt_of R1.d)]
      exact R1.d
    simp only [disk_at ed, pa_t]
    refine ⟨by decide, by show 3 < 1000; decide, ?_⟩
    have R2 := R1.flat e3
    refine hE _ _ R2 rfl (fun i hi => ?_) (((Kp.set (mem_d L)).trans Kp.ext fun i hi _ => hi).trans (Kp.set (mem_d L)) fun i hi _ => hi)
    simp only [LP.hs, List.mem_cons, List.mem_append, List.not_mem_nil, or_false] at hi ⊢
    rcases hi with hi | hi | hi | hi
    · exact .inl (.inl hi)
    · exact .inr (by rw [hi]; simp)
    · exact .inl (.inr (.inr (.inl (by rw [hi]; exact List.mem_of_getElem? e3))))
    · exact .inl (.inr (.inr (.inr hi)))
/-- a file is found under its new name -/
theorem p_Disk_rename : ∀ pvs st Q PX, S_Disk_rename mg pvs st Q PX → t_Disk_rename K mg (endOf Q PX) (ini N_Disk_rename pvs) st := by
  rintro pvs st Q PX ⟨L, A, n, v, w, rfl, R, W, hv, hw, hE⟩
  simp only [t_Disk_rename, sRet, sSeq, sAsg, sIfS, sSkip, sAsgG, sDrop, sRaise, sOp, sCB, sCons, sNil, sVar, sC, sTup, sNeg, sNot, sTest, sNotT, sAndT, sOrT, sAnd, sOr, sIf, sChain, sCall, ini, endOf, kName, kTup2, kTup3, oAdd, oI, oI0, oIs, oType, tyName, isNon_non, isNon_tup, isNon_int, atI_0, atI_1, atI_n, eq2_ii, ne2_ii, List.map_cons, List.map_nil, List.length_cons, List.length_nil, List.cons_append, List.nil_append, List.append_nil, List.replicate_succ, List.replicate_zero, List.getElem?_cons_zero, List.getElem?_cons_succ, List.set_cons_zero, List.set_cons_succ, Bool.false_eq_true, decide_true, decide_false, Bool.not_true, Bool.not_false, ↓reduceIte, Nat.reduceAdd, Nat.reduceSub, Nat.zero_add, Option.isSome, true_and, sAtt, sSetAtt, sMeth, sMake, disk_at R.d]
  unfold opRename at hE
  refine ⟨rfl, L, A, v, rfl, R, hv, fun hs => ?_, fun hn => ?_⟩
  · obtain ⟨i, hi⟩ := Option.isSome_iff_exists.mp hs
    rw [hi] at hE
    refine ⟨w, rfl, ?_, ?_, fun st' he => ?_⟩
    · cases w <;> first | exact hw.elim | rfl
    · rintro s rfl
      have : s.length ≤ 20 := hw.1
      omega
    · have kp := kp_of_ext (M := []) he
      have R0 := R.keep kp (fun _ _ h => by cases h)
      cases hb : nameB w with
      | false =>
        simp only [hb, if_true] at hE
        exact hE _ _ ⟨rfl, rfl⟩ kp
      | true =>
        simp only [hb, if_false, Bool.true_eq_false] at hE
        simp only [disk_at R0.d, Bool.not_true]
        refine ⟨rfl, L.d, A.pow, A.steps, _, rfl, R0.d, by have := W.sl; have := W.le; omega, fun hp => ?_, fun hp => ?_⟩
        · simp only [out_of hp, if_true] at hE
          exact hE _ _ rfl kp
        · have R1 := R0.tick
          obtain ⟨h, e1, e2, e3⟩ := curP R1
          obtain ⟨k, hk, hg⟩ := find_enc (fOf L.F) A.tick hv
          simp only [out_not hp, Bool.false_eq_true, if_false] at hE
          simp only [disk_at R1.d, lk_t, ix_at R1.t e1, dix_at (dct_at e2) hk (hg.trans (by rw [find_tick, hi]; rfl)), sSetD, sRet, sSeq, sAsg, sIfS, sSkip, sAsgG, sDrop, sRaise, sOp, sCB, sCons, sNil, sVar, sC, sTup, sNeg, sNot, sTest, sNotT, sAndT, sOrT, sAnd, sOr, sIf, sChain, sCall, ini, endOf, kName, kTup2, kTup3, oAdd, oI, oI0, oIs, oType, tyName, isNon_non, isNon_tup, isNon_int, atI_0, atI_1, atI_n, eq2_ii, ne2_ii, List.map_cons, List.map_nil, List.length_cons, List.length_nil, List.cons_append, List.nil_append, List.append_nil, List.replicate_succ, List.replicate_zero, List.getElem?_cons_zero, List.getElem?_cons_succ, List.set_cons_zero, List.set_cons_succ, Bool.false_eq_true, decide_true, decide_false, Bool.not_true, Bool.not_false, ↓reduceIte, Nat.reduceAdd, Nat.reduceSub, Nat.zero_add, Option.isSome, true_and, sAtt, sSetAtt, sMeth, sMake]
          obtain ⟨x, rfl, hx⟩ := find_txt hi
          cases w <;> first | (cases hb; done) | skip
          rename_i y
          have hj := W.jl
          have hn := W.le
          refine ⟨rfl, L, A.tick, A.fl.length, x, rfl, R1, okJ_run _ _ W.okj, ?_⟩
          have hok := okJ_run _ _ W.okj
          simp only [keyP, get_end, set_end, putT_enc]
          have hlen : (encT (fOf L.F) (dropT A.tick.cur x)).length < 1000 := by
            rw [encT_len]
            have h1 : (dropT A.tick.cur x).length ≤ A.tick.cur.length := List.length_filter_le _ _
            have h2 : A.tick.cur.length ≤ 8 := hok.2.1
            omega
          refine ⟨hlen, ?_⟩
          have ed : ∀ D : DL, (List.set st' L.d (iDisk mg (pwP A.pow) (A.steps + 1) (PV.hd L.t)) ++ [Ob.dct D])[L.d]? = some (iDisk mg (pwP A.pow) (A.steps + 1) (.hd L.t)) := fun D => by
            rw [List.getElem?_append_left (lt_of R1.d)]
            exact R1.d
          simp only [disk_at (ed _)]
          refine ⟨rfl, ?_⟩
          refine with_others (m := 0) (x := x) R1 (by show A.jr.length ≤ 900; omega) ?_
          have R2 := R1.push (j := .rename x y) (D := encT (fOf L.F) (putT (dropT A.tick.cur x) y i)) (by
            have e5 : app A.tick.cur (.rename x y) = putT (dropT A.tick.cur x) y i := by
              show (match getT A.cur x with | some i => _ | none => _) = _
              rw [hx]
            rw [e5])
          refine hE _ _ R2 rfl (fun q hq => (near_push q hq).imp_right (fun h => ?_)) (((kp.mono (N := L.hs) (fun _ h => by cases h)).trans (Kp.set (mem_d L)) fun i hi _ => hi).trans Kp.ext (fun i hi _ => hi) |>.trans (Kp.set (mem_t L)) fun i hi _ => hi)
          rw [List.length_set] at h
          exact Nat.le_trans kp.1 h
  · rw [hn] at hE
    exact hE _ _ rfl (Kp.refl _ _)
end K5
set_option Elab.async false
set_option linter.all false
set_option maxRecDepth 100000
set_option maxHeartbeats 1000000
namespace K5
open PySem PySem.Spec PyProof.Rows L2 Sm Wm Cm Kt Tm
variable {K : PySem.W.Frag} {mg : Str → Option Value}
def apA (K : PySem.W.Frag) (mg : Str → Option Value) : SemS := (sIfS (sNotT (sTest (sCall (S_is_name mg) [] (sCons (sVar 1) sNil)))) (sRaise (ad mg "InvalidName") "message" (sCons (sVar 1) sNil)) sSkip)
def apB (K : PySem.W.Frag) (mg : Str → Option Value) : SemS := (sIfS (sNotT (sTest (sCall (S__is_text mg) [] (sCons (sVar 2) sNil)))) (sRaise (ad mg "InvalidOperation") "message" (sCons (sC (.str "no text of a file")) sNil)) sSkip)
def apC (K : PySem.W.Frag) (mg : Str → Option Value) : SemS := (sIfS (sAndT (sTest (sOp (oInO true (ad mg "Disk") (S_Disk___contains__ mg)) (sVar 1) (sVar 0))) (sTest (sOp oEq2 (sCB (oLenO (ad mg "Disk") (S_Disk___len__ mg)) (sCons (sVar 0) sNil)) (sC (.int 8))))) (sRaise (ad mg "TooMany") "limit" (sCons (sC (.int 8)) sNil)) sSkip)
def apE (K : PySem.W.Frag) (mg : Str → Option Value) : SemS := (sAsg (sIf (sTest (sOp (oInO false (ad mg "Disk") (S_Disk___contains__ mg)) (sVar 1) (sVar 0))) (sMeth (ad mg "Disk") "read" (S_Disk_read mg) [] (sVar 0) (sCons (sVar 1) sNil)) (sC (.str ""))) 3)
def apF (K : PySem.W.Frag) (mg : Str → Option Value) : SemS := (sIfS (sTest (sOp oGt (sOp oAdd (sCB oLen (sCons (sVar 3) sNil)) (sCB oLen (sCons (sVar 2) sNil))) (sC (.int 200000)))) (sRaise (ad mg "TooMany") "limit" (sCons (sC (.int 200000)) sNil)) sSkip)
def apG (K : PySem.W.Frag) (mg : Str → Option Value) : SemS := (sSeq (sDrop (sMeth (ad mg "Disk") "_step" (S_Disk__step mg) [] (sVar 0) sNil)) (sIfS (sTest (sOp (oInO false (ad mg "Disk") (S_Disk___contains__ mg)) (sVar 1) (sVar 0))) (sSeq (sAsg (sOp oDIx (sOp oIx (sAtt (ad mg "Disk") "_tables" (sVar 0)) (sNeg (sC (.int 1)))) (sVar 1)) 4) (sSetAtt (ad mg "DiskFile") "text" (sVar 4) (sOp oAdd (sVar 3) (sVar 2)))) (sSeq (sAsg (sMeth (ad mg "Disk") "_other_names" (S_Disk__other_names mg) [] (sVar 0) (sCons (sVar 1) sNil)) 5) (sSeq (sSetD (sMake (ad mg "DiskFile") (S_DiskFile___init__ mg) [] (sCons (sVar 2) (sCons (sC (.int 0)) sNil))) (sVar 5) (sVar 1)) (sDrop (sMeth (ad mg "Disk") "_with_names" (S_Disk__with_names mg) [] (sVar 0) (sCons (sVar 5) sNil)))))))
def apH (K : PySem.W.Frag) (mg : Str → Option Value) : SemS := (sIfS (sTest (sOp (oInO false (ad mg "Disk") (S_Disk___contains__ mg)) (sVar 1) (sVar 0))) (sSeq (sAsg (sOp oDIx (sOp oIx (sAtt (ad mg "Disk") "_tables" (sVar 0)) (sNeg (sC (.int 1)))) (sVar 1)) 4) (sSetAtt (ad mg "DiskFile") "text" (sVar 4) (sOp oAdd (sVar 3) (sVar 2)))) (sSeq (sAsg (sMeth (ad mg "Disk") "_other_names" (S_Disk__other_names mg) [] (sVar 0) (sCons (sVar 1) sNil)) 5) (sSeq (sSetD (sMake (ad mg "DiskFile") (S_DiskFile___init__ mg) [] (sCons (sVar 2) (sCons (sC (.int 0)) sNil))) (sVar 5) (sVar 1)) (sDrop (sMeth (ad mg "Disk") "_with_names" (S_Disk__with_names mg) [] (sVar 0) (sCons (sVar 5) sNil))))))
def apI (K : PySem.W.Frag) (mg : Str → Option Value) : SemS := (sSeq (sAsg (sOp oDIx (sOp oIx (sAtt (ad mg "Disk") "_tables" (sVar 0)) (sNeg (sC (.int 1)))) (sVar 1)) 4) (sSetAtt (ad mg "DiskFile") "text" (sVar 4) (sOp oAdd (sVar 3) (sVar 2))))
def apJ (K : PySem.W.Frag) (mg : Str → Option Value) : SemS := (sSeq (sAsg (sMeth (ad mg "Disk") "_other_names" (S_Disk__other_names mg) [] (sVar 0) (sCons (sVar 1) sNil)) 5) (sSeq (sSetD (sMake (ad mg "DiskFile") (S_DiskFile___init__ mg) [] (sCons (sVar 2) (sCons (sC (.int 0)) sNil))) (sVar 5) (sVar 1)) (sDrop (sMeth (ad mg "Disk") "_with_names" (S_Disk__with_names mg) [] (sVar 0) (sCons (sVar 5) sNil)))))
theorem ap_go {D : EndP} {ρ : Sm.Env} {st : Store} (h : sSeq (apA K mg) (sSeq (apB K mg) (sSeq (apC K mg) (sSeq (apE K mg) (sSeq (apF K mg) (apG K mg))))) D ρ st) : t_Disk_append K mg D ρ st := h
theorem apH_go {D : EndP} {ρ : Sm.Env} {st : Store} (h : sIfS (sTest (sOp (oInO false (ad mg "Disk") (S_Disk___contains__ mg)) (sVar 1) (sVar 0))) (apI K mg) (apJ K mg) D ρ st) : apH K mg D ρ st := h
theorem apG_go {D : EndP} {ρ : Sm.Env} {st : Store} (h : sSeq (sDrop (sMeth (ad mg "Disk") "_step" (S_Disk__step mg) [] (sVar 0) sNil)) (apH K mg) D ρ st) : apG K mg D ρ st := h
/-- what the disk has of the file ahead -/
def oldT (A : Dk) (v : PV) : Str := match find A v with
  | some i => (A.fl.getD i ("", 0)).1
  | none => ""
theorem apI_ok {st : Store} {L : LP} {A : Dk} {n i : Nat} {v : PV} {x : Str} {Q : PK} {PX : XP} (R : RepP mg st L A) (W : WF n A) (hv : okV v) (hx : x.length ≤ 20) (hf : find A v = some i)
    (hq : ∀ st', RepP mg st' L { A with fl := A.fl.modify i (fun f => (f.1 ++ x, f.2)) } → Kp L.hs st st' → Q .non st') : apI K mg (endOf Q PX) [some (.oh L.d), some v, some (.str x), some (.str (oldT A v)), none, none] st := by
  obtain ⟨h, e1, e2, e3⟩ := curP R
  obtain ⟨k, hk, hg⟩ := find_enc (fOf L.F) A hv
  obtain ⟨q, f, f1, f2, f3, f4, f5⟩ := fileP R W hf
  have hb := (W.fb f (List.mem_of_getElem? f1)).2
  have hn := W.le
  simp only [apI, sRet, sSeq, sAsg, sIfS, sSkip, sAsgG, sDrop, sRaise, sOp, sCB, sCons, sNil, sVar, sC, sTup, sNeg, sNot, sTest, sNotT, sAndT, sOrT, sAnd, sOr, sIf, sChain, sCall, ini, endOf, kName, kTup2, kTup3, oAdd, oI, oI0, oIs, oType, tyName, isNon_non, isNon_tup, isNon_int, atI_0, atI_1, atI_n, eq2_ii, ne2_ii, List.map_cons, List.map_nil, List.length_cons, List.length_nil, List.cons_append, List.nil_append, List.append_nil, List.replicate_succ, List.replicate_zero, List.getElem?_cons_zero, List.getElem?_cons_succ, List.set_cons_zero, List.set_cons_succ, Bool.false_eq_true, decide_true, decide_false, Bool.not_true, Bool.not_false, ↓reduceIte, Nat.reduceAdd, Nat.reduceSub, Nat.zero_add, Option.isSome, true_and, sAtt, sSetAtt, sMeth, sMake, disk_at R.d, lk_t, ix_at R.t e1, dix_at (dct_at e2) hk (hg.trans (by rw [hf]; rfl)), f3, file_at f4, fa_t]
  have e : oldT A v = f.1 := by unfold oldT; rw [hf]; exact congrArg Prod.fst f5
  rw [e]
  refine ⟨(by have z : 3000 ≤ sizeLine := (by decide); omega), by show 2 < 1000; decide, ?_⟩
  exact hq _ (R.file f2 f1 fun f => (f.1 ++ x, f.2)) (Kp.set (mem_F f2))
theorem okJ_take {m : Nat} : ∀ (l : List Jn) (T : Tb), okJ m T l → ∀ i, okT (runT T (l.take i)) m
  | [], T, h, i => by rw [List.take_nil]; exact h
  | j :: r, T, h, 0 => h.1
  | j :: r, T, h, i + 1 => okJ_take r (app T j) h.2.2 i
theorem fOf_old {F : List Nat} {i k : Nat} (h : i < F.length) : fOf F i = fOf (F ++ [k]) i := by
  unfold fOf
  rw [List.getD_eq_getElem?_getD, List.getD_eq_getElem?_getD, List.getElem?_append_left h]
theorem fOf_new {F : List Nat} {k : Nat} : fOf (F ++ [k]) F.length = .oh k := fOf_at (by simp)
theorem RepP.make {st : Store} {L : LP} {A : Dk} {n : Nat} {y x : Str} (R : RepP mg st L A) (W : WF n A) (hf : getT A.cur y = none) {D : DL} (hD : D = encT (fOf (L.F ++ [st.length + 1])) (putT A.cur y A.fl.length)) :
    RepP mg ((st ++ [Ob.dct D, iFile mg (x, 0)]).set L.t (.lst (L.tb.map .dh ++ [.dh st.length]))) { L with tb := L.tb ++ [st.length], F := L.F ++ [st.length + 1] } { A with jr := A.jr ++ [.make y A.fl.length], fl := A.fl ++ [(x, 0)] } where
  d := by
    rw [set_ne]
    · rw [List.getElem?_append_left (lt_of R.d)]; exact R.d
    · intro e; have := R.t; rw [e, R.d] at this; cases this
  t := by
    have : (st ++ [Ob.dct D, iFile mg (x, 0)])[L.t]? = some (.lst (L.tb.map .dh)) := by rw [List.getElem?_append_left (lt_of R.t)]; exact R.t
    rw [set_at this]
    simp
  ltb := by simp [R.ltb]
  tb := fun i q e => by
    have hl := R.ltb
    by_cases hi : i < L.tb.length
    · rw [List.getElem?_append_left hi] at e
      have old := R.tb i q e
      rw [set_ne]
      · rw [List.getElem?_append_left (lt_of old), old, List.take_append_of_le_length (by omega)]
        congr 2
        refine encT_get _ _ _ fun p hp => fOf_old ?_
        rw [R.lF]
        exact ((okJ_take _ _ W.okj i).2.2 p hp).1
      · intro z; rw [← z, R.t] at old; cases old
    · rw [List.getElem?_append_right (by omega)] at e
      have hi2 : i = L.tb.length := by
        by_cases z : i - L.tb.length = 0
        · omega
        · rw [List.getElem?_eq_none (by simp; omega)] at e
          cases e
      subst hi2
      simp at e
      subst e
      rw [set_ne]
      · have e5 : (A.jr ++ [Jn.make y A.fl.length]).take L.tb.length = A.jr ++ [.make y A.fl.length] := List.take_of_length_le (by simp; omega)
        rw [e5]
        have e6 : (st ++ [Ob.dct D, iFile mg (x, 0)])[st.length]? = some (.dct D) := by simp
        rw [e6, hD]
        unfold runT
        rw [List.foldl_append]
        rfl
      · have := lt_of R.t
        omega
  lF := by simp [R.lF]
  F := fun i q f e1 e2 => by
    by_cases hi : i < L.F.length
    · rw [List.getElem?_append_left hi] at e1
      rw [List.getElem?_append_left (by rw [← R.lF]; exact hi)] at e2
      have old := R.F i q f e1 e2
      rw [set_ne]
      · rw [List.getElem?_append_left (lt_of old)]; exact old
      · intro z; rw [← z, R.t] at old; cases old
    · rw [List.getElem?_append_right (by omega)] at e1
      rw [List.getElem?_append_right (by rw [← R.lF]; omega), ← R.lF] at e2
      have hi2 : i - L.F.length = 0 := by
        by_cases z : i - L.F.length = 0
        · exact z
        · rw [List.getElem?_eq_none (by simp; omega)] at e1
          cases e1
      rw [hi2] at e1 e2
      simp at e1 e2
      subst e1 e2
      rw [set_ne]
      · simp
      · have := lt_of R.t
        omega
  nF := by
    rw [List.nodup_append]
    refine ⟨R.nF, by simp, fun a ha b hb => ?_⟩
    simp at hb
    subst hb
    intro z
    subst z
    obtain ⟨i, hi, e⟩ := List.getElem_of_mem ha
    have e1 : L.F[i]? = some (st.length + 1) := by rw [List.getElem?_eq_getElem hi, e]
    have hi2 : i < A.fl.length := by rw [← R.lF]; exact hi
    have := lt_of (R.F i _ _ e1 (List.getElem?_eq_getElem hi2))
    omega
theorem near_make {L : LP} {st : Store} : Near L.hs ({ L with tb := L.tb ++ [st.length], F := L.F ++ [st.length + 1] } : LP).hs st := by
  intro i h
  simp only [LP.hs, List.mem_cons, List.mem_append, List.not_mem_nil, or_false] at h ⊢
  rcases h with h | h | (h | h) | h | h
  · exact .inl (.inl h)
  · exact .inl (.inr (.inl h))
  · exact .inl (.inr (.inr (.inl h)))
  · exact .inr (by omega)
  · exact .inl (.inr (.inr (.inr h)))
  · exact .inr (by omega)
theorem apJ_ok {st : Store} {L : LP} {A : Dk} {n : Nat} {y x bf : Str} {Q : PK} {PX : XP} (R : RepP mg st L A) (W : WF n A) (hf : getT A.cur y = none)
    (hq : ∀ (L' : LP) st', RepP mg st' L' { A with jr := A.jr ++ [.make y A.fl.length], fl := A.fl ++ [(x, 0)] } → L'.d = L.d → Near L.hs L'.hs st → Kp L.hs st st' → Q .non st') : apJ K mg (endOf Q PX) [some (.oh L.d), some (.str y), some (.str x), some (.str bf), none, none] st := by
  have hok := okJ_run _ _ W.okj
  have hj := W.jl
  have hn := W.le
  simp only [apJ, sRet, sSeq, sAsg, sIfS, sSkip, sAsgG, sDrop, sRaise, sOp, sCB, sCons, sNil, sVar, sC, sTup, sNeg, sNot, sTest, sNotT, sAndT, sOrT, sAnd, sOr, sIf, sChain, sCall, ini, endOf, kName, kTup2, kTup3, oAdd, oI, oI0, oIs, oType, tyName, isNon_non, isNon_tup, isNon_int, atI_0, atI_1, atI_n, eq2_ii, ne2_ii, List.map_cons, List.map_nil, List.length_cons, List.length_nil, List.cons_append, List.nil_append, List.append_nil, List.replicate_succ, List.replicate_zero, List.getElem?_cons_zero, List.getElem?_cons_succ, List.set_cons_zero, List.set_cons_succ, Bool.false_eq_true, decide_true, decide_false, Bool.not_true, Bool.not_false, ↓reduceIte, Nat.reduceAdd, Nat.reduceSub, Nat.zero_add, Option.isSome, true_and, sAtt, sSetAtt, sMeth, sMake, disk_at R.d]
  refine ⟨rfl, L, A, A.fl.length, y, rfl, R, hok, ?_⟩
  rw [dropT_none hf]
  simp only [sSetD, sRet, sSeq, sAsg, sIfS, sSkip, sAsgG, sDrop, sRaise, sOp, sCB, sCons, sNil, sVar, sC, sTup, sNeg, sNot, sTest, sNotT, sAndT, sOrT, sAnd, sOr, sIf, sChain, sCall, ini, endOf, kName, kTup2, kTup3, oAdd, oI, oI0, oIs, oType, tyName, isNon_non, isNon_tup, isNon_int, atI_0, atI_1, atI_n, eq2_ii, ne2_ii, List.map_cons, List.map_nil, List.length_cons, List.length_nil, List.cons_append, List.nil_append, List.append_nil, List.replicate_succ, List.replicate_zero, List.getElem?_cons_zero, List.getElem?_cons_succ, List.set_cons_zero, List.set_cons_succ, Bool.false_eq_true, decide_true, decide_false, Bool.not_true, Bool.not_false, ↓reduceIte, Nat.reduceAdd, Nat.reduceSub, Nat.zero_add, Option.isSome, true_and, sAtt, sSetAtt, sMeth, sMake]
  refine ⟨_, _, _, rfl, get_end _ _, rfl, ?_⟩
  have e0 : (st ++ [Ob.dct (encT (fOf L.F) A.cur)] ++ [Ob.ins (ad mg "DiskFile") []]).set (st ++ [Ob.dct (encT (fOf L.F) A.cur)]).length (Ob.ins (ad mg "DiskFile") [(("text" : Str), .str x), ("firm_count", .int 0)]) = st ++ [Ob.dct (encT (fOf L.F) A.cur), iFile mg (x, 0)] := by
    rw [set_end, List.append_assoc]
    rfl
  rw [e0]
  have e1 : (st ++ [Ob.dct (encT (fOf L.F) A.cur), iFile mg (x, 0)])[st.length]? = some (.dct (encT (fOf L.F) A.cur)) := by simp
  simp only [keyP, e1]
  have e2 : putP (encT (fOf L.F) A.cur) (.inr y) (.oh (st ++ [Ob.dct (encT (fOf L.F) A.cur)]).length) = encT (fOf (L.F ++ [st.length + 1])) (putT A.cur y A.fl.length) := by
    rw [← putT_enc, ← R.lF, fOf_new]
    have e3 : encT (fOf L.F) A.cur = encT (fOf (L.F ++ [st.length + 1])) A.cur := encT_get _ _ _ fun p hp => fOf_old (by rw [R.lF]; exact (hok.2.2 p hp).1)
    rw [e3]
    simp
  have e4 : (st ++ [Ob.dct (encT (fOf L.F) A.cur), iFile mg (x, 0)]).set st.length (.dct (encT (fOf (L.F ++ [st.length + 1])) (putT A.cur y A.fl.length))) = st ++ [Ob.dct (encT (fOf (L.F ++ [st.length + 1])) (putT A.cur y A.fl.length)), iFile mg (x, 0)] := by
    rw [List.set_append_right _ _ (Nat.le_refl _), Nat.sub_self, List.set_cons_zero]
  rw [e2, e4, encT_len]
  have h8 : A.cur.length ≤ 8 := hok.2.1
  refine ⟨by omega, ?_⟩
  have ed : (st ++ [Ob.dct (encT (fOf (L.F ++ [st.length + 1])) (putT A.cur y A.fl.length)), iFile mg (x, 0)])[L.d]? = some (iDisk mg (pwP A.pow) A.steps (.hd L.t)) := by
    rw [List.getElem?_append_left (lt_of R.d)]
    exact R.d
  have et : (st ++ [Ob.dct (encT (fOf (L.F ++ [st.length + 1])) (putT A.cur y A.fl.length)), iFile mg (x, 0)])[L.t]? = some (.lst (L.tb.map .dh)) := by
    rw [List.getElem?_append_left (lt_of R.t)]
    exact R.t
  simp only [disk_at ed]
  refine ⟨rfl, L.d, pwP A.pow, A.steps, L.t, st.length, _, rfl, ed, et, by rw [List.length_map, R.ltb]; omega, ?_⟩
  exact hq _ _ (R.make W hf rfl) rfl near_make ((Kp.ext).trans (Kp.set (mem_t L)) fun i hi _ => hi)
theorem p_Disk_append : ∀ pvs st Q PX, S_Disk_append mg pvs st Q PX → t_Disk_append K mg (endOf Q PX) (ini N_Disk_append pvs) st := by
  rintro pvs st Q PX ⟨L, A, n, v, w, rfl, R, W, hn1, hv, hw, hx, hE⟩
  unfold opAppend at hE
  apply ap_go
  simp only [apA, sRet, sSeq, sAsg, sIfS, sSkip, sAsgG, sDrop, sRaise, sOp, sCB, sCons, sNil, sVar, sC, sTup, sNeg, sNot, sTest, sNotT, sAndT, sOrT, sAnd, sOr, sIf, sChain, sCall, ini, endOf, kName, kTup2, kTup3, oAdd, oI, oI0, oIs, oType, tyName, isNon_non, isNon_tup, isNon_int, atI_0, atI_1, atI_n, eq2_ii, ne2_ii, List.map_cons, List.map_nil, List.length_cons, List.length_nil, List.cons_append, List.nil_append, List.append_nil, List.replicate_succ, List.replicate_zero, List.getElem?_cons_zero, List.getElem?_cons_succ, List.set_cons_zero, List.set_cons_succ, Bool.false_eq_true, decide_true, decide_false, Bool.not_true, Bool.not_false, ↓reduceIte, Nat.reduceAdd, Nat.reduceSub, Nat.zero_add, Option.isSome, true_and, sAtt, sSetAtt, sMeth, sMake]
  have hn := W.le
  refine ⟨v, rfl, by cases v <;> first | exact hv.elim | rfl, ?_, fun st1 he1 => ?_⟩
  · rintro s rfl
    have : s.length ≤ 20 := hv.1
    omega
  have kp1 := kp_of_ext (M := []) he1
  cases hb : nameB v with
  | false =>
    simp only [hb, if_true] at hE
    exact hE _ _ ⟨rfl, rfl⟩ kp1
  | true =>
  simp only [hb, if_false, Bool.true_eq_false] at hE
  simp only [Bool.not_true, apB, sRet, sSeq, sAsg, sIfS, sSkip, sAsgG, sDrop, sRaise, sOp, sCB, sCons, sNil, sVar, sC, sTup, sNeg, sNot, sTest, sNotT, sAndT, sOrT, sAnd, sOr, sIf, sChain, sCall, ini, endOf, kName, kTup2, kTup3, oAdd, oI, oI0, oIs, oType, tyName, isNon_non, isNon_tup, isNon_int, atI_0, atI_1, atI_n, eq2_ii, ne2_ii, List.map_cons, List.map_nil, List.length_cons, List.length_nil, List.cons_append, List.nil_append, List.append_nil, List.replicate_succ, List.replicate_zero, List.getElem?_cons_zero, List.getElem?_cons_succ, List.set_cons_zero, List.set_cons_succ, Bool.false_eq_true, decide_true, decide_false, Bool.not_true, Bool.not_false, ↓reduceIte, Nat.reduceAdd, Nat.reduceSub, Nat.zero_add, Option.isSome, true_and, sAtt, sSetAtt, sMeth, sMake]
  refine ⟨w, rfl, by cases w <;> first | exact hw.elim | rfl, ?_, fun st2 he2 => ?_⟩
  · rintro s rfl
    have : s.length ≤ 20 := hw.1
    omega
  have kp2 := kp1.trans (kp_of_ext (M := []) he2) (fun i hi _ => hi)
  have R0 := R.keep kp2 (fun _ _ h => by cases h)
  cases w <;> first | exact hw.elim | skip
  · exact hE _ _ ⟨rfl, rfl⟩ kp2
  rename_i x
  have ht := hx x rfl
  have hwl : x.length ≤ 20 := hw.1
  rw [ht]
  cases v <;> first | (cases hb; done) | skip
  rename_i y
  -- what happens behind the looks
  have tail : ∀ bf, bf = oldT A (.str y) → (find A (.str y) = none → A.cur.length ≠ 8) → sSeq (apF K mg) (apG K mg) (endOf Q PX) [some (.oh L.d), some (.str y), some (.str x), some (.str bf), none, none] st2 := by
    intro bf hbf h8
    have hbl : bf.length ≤ 2100 := by
      rw [hbf]
      unfold oldT
      cases hf : find A (.str y) with
      | none => exact Nat.zero_le _
      | some i =>
        obtain ⟨q, f, f1, f2, f3, f4, f5⟩ := fileP R W hf
        have hb2 := (W.fb f (List.mem_of_getElem? f1)).2
        show (A.fl.getD i ("", 0)).1.length ≤ 2100
        rw [f5]
        omega
    simp only [apF, sRet, sSeq, sAsg, sIfS, sSkip, sAsgG, sDrop, sRaise, sOp, sCB, sCons, sNil, sVar, sC, sTup, sNeg, sNot, sTest, sNotT, sAndT, sOrT, sAnd, sOr, sIf, sChain, sCall, ini, endOf, kName, kTup2, kTup3, oAdd, oI, oI0, oIs, oType, tyName, isNon_non, isNon_tup, isNon_int, atI_0, atI_1, atI_n, eq2_ii, ne2_ii, List.map_cons, List.map_nil, List.length_cons, List.length_nil, List.cons_append, List.nil_append, List.append_nil, List.replicate_succ, List.replicate_zero, List.getElem?_cons_zero, List.getElem?_cons_succ, List.set_cons_zero, List.set_cons_succ, Bool.false_eq_true, decide_true, decide_false, Bool.not_true, Bool.not_false, ↓reduceIte, Nat.reduceAdd, Nat.reduceSub, Nat.zero_add, Option.isSome, true_and, sAtt, sSetAtt, sMeth, sMake, oLen]
    refine ⟨by omega, by omega, ?_⟩
    rw [decide_eq_false (by omega)]
    apply apG_go
    simp only [sRet, sSeq, sAsg, sIfS, sSkip, sAsgG, sDrop, sRaise, sOp, sCB, sCons, sNil, sVar, sC, sTup, sNeg, sNot, sTest, sNotT, sAndT, sOrT, sAnd, sOr, sIf, sChain, sCall, ini, endOf, kName, kTup2, kTup3, oAdd, oI, oI0, oIs, oType, tyName, isNon_non, isNon_tup, isNon_int, atI_0, atI_1, atI_n, eq2_ii, ne2_ii, List.map_cons, List.map_nil, List.length_cons, List.length_nil, List.cons_append, List.nil_append, List.append_nil, List.replicate_succ, List.replicate_zero, List.getElem?_cons_zero, List.getElem?_cons_succ, List.set_cons_zero, List.set_cons_succ, Bool.false_eq_true, decide_true, decide_false, Bool.not_true, Bool.not_false, ↓reduceIte, Nat.reduceAdd, Nat.reduceSub, Nat.zero_add, Option.isSome, true_and, sAtt, sSetAtt, sMeth, sMake, disk_at R0.d]
    refine ⟨rfl, L.d, A.pow, A.steps, _, rfl, R0.d, by have := W.sl; omega, fun hp => ?_, fun hp => ?_⟩
    · cases hf : find A (.str y) with
      | none =>
        rw [hf] at hE
        simp only [if_neg (h8 hf), out_of hp, if_true] at hE
        exact hE _ _ rfl kp2
      | some i =>
        rw [hf] at hE
        simp only [out_of hp, if_true] at hE
        exact hE _ _ rfl kp2
    · have R1 := R0.tick
      have kp3 : Kp L.hs st (st2.set L.d (iDisk mg (pwP A.pow) (A.steps + 1) (.hd L.t))) := (kp2.mono (N := L.hs) (fun _ h => by cases h)).trans (Kp.set (mem_d L)) fun i hi _ => hi
      apply apH_go
      simp only [sRet, sSeq, sAsg, sIfS, sSkip, sAsgG, sDrop, sRaise, sOp, sCB, sCons, sNil, sVar, sC, sTup, sNeg, sNot, sTest, sNotT, sAndT, sOrT, sAnd, sOr, sIf, sChain, sCall, ini, endOf, kName, kTup2, kTup3, oAdd, oI, oI0, oIs, oType, tyName, isNon_non, isNon_tup, isNon_int, atI_0, atI_1, atI_n, eq2_ii, ne2_ii, List.map_cons, List.map_nil, List.length_cons, List.length_nil, List.cons_append, List.nil_append, List.append_nil, List.replicate_succ, List.replicate_zero, List.getElem?_cons_zero, List.getElem?_cons_succ, List.set_cons_zero, List.set_cons_succ, Bool.false_eq_true, decide_true, decide_false, Bool.not_true, Bool.not_false, ↓reduceIte, Nat.reduceAdd, Nat.reduceSub, Nat.zero_add, Option.isSome, true_and, sAtt, sSetAtt, sMeth, sMake, oInO, disk_at R1.d]
      refine ⟨L, A.tick, .str y, rfl, R1, hv, ?_⟩
      cases hf : find A (.str y) with
      | none =>
        rw [hf] at hE
        simp only [if_neg (h8 hf), out_not hp, Bool.false_eq_true, if_false] at hE
        rw [find_tick, hf]
        have := apJ_ok (K := K) (y := y) (x := x) (bf := bf) (Q := Q) (PX := PX) R1 (W.tick (by omega) hp) hf (fun L' st' RR hd hN hK => hE L' st' RR hd (fun q hq => (hN q hq).imp_right fun z => Nat.le_trans kp3.1 z) (kp3.trans hK fun i hi _ => hi))
        exact this
      | some i =>
        rw [hf] at hE
        simp only [out_not hp, Bool.false_eq_true, if_false] at hE
        rw [find_tick, hf]
        have := apI_ok (K := K) (v := .str y) (x := x) (Q := Q) (PX := PX) R1 (W.tick (by omega) hp) hv hwl hf (fun st' RR hK => hE L st' RR rfl (near_refl _ _) (kp3.trans hK fun i hi _ => hi))
        rw [hbf]
        exact this
  simp only [Bool.not_true, apC, sRet, sSeq, sAsg, sIfS, sSkip, sAsgG, sDrop, sRaise, sOp, sCB, sCons, sNil, sVar, sC, sTup, sNeg, sNot, sTest, sNotT, sAndT, sOrT, sAnd, sOr, sIf, sChain, sCall, ini, endOf, kName, kTup2, kTup3, oAdd, oI, oI0, oIs, oType, tyName, isNon_non, isNon_tup, isNon_int, atI_0, atI_1, atI_n, eq2_ii, ne2_ii, List.map_cons, List.map_nil, List.length_cons, List.length_nil, List.cons_append, List.nil_append, List.append_nil, List.replicate_succ, List.replicate_zero, List.getElem?_cons_zero, List.getElem?_cons_succ, List.set_cons_zero, List.set_cons_succ, Bool.false_eq_true, decide_true, decide_false, Bool.not_true, Bool.not_false, ↓reduceIte, Nat.reduceAdd, Nat.reduceSub, Nat.zero_add, Option.isSome, true_and, sAtt, sSetAtt, sMeth, sMake, oInO, disk_at R0.d]
  refine ⟨L, A, .str y, rfl, R0, hv, ?_⟩
  cases hf : find A (.str y) with
  | none =>
    rw [hf] at hE
    dsimp only at hE
    simp only [Option.isSome, Bool.not_false, oLenO, disk_at R0.d]
    refine ⟨L, A, rfl, R0, by omega, ?_, ?_⟩
    · have h8 : A.cur.length ≤ 8 := (okJ_run _ _ W.okj).2.1
      omega
    · simp only [eq2_ii]
      by_cases h8 : A.cur.length = 8
      · rw [decide_eq_true (by omega)]
        rw [if_pos h8] at hE
        exact hE _ _ rfl kp2
      · rw [decide_eq_false (by omega)]
        simp only [apE, sRet, sSeq, sAsg, sIfS, sSkip, sAsgG, sDrop, sRaise, sOp, sCB, sCons, sNil, sVar, sC, sTup, sNeg, sNot, sTest, sNotT, sAndT, sOrT, sAnd, sOr, sIf, sChain, sCall, ini, endOf, kName, kTup2, kTup3, oAdd, oI, oI0, oIs, oType, tyName, isNon_non, isNon_tup, isNon_int, atI_0, atI_1, atI_n, eq2_ii, ne2_ii, List.map_cons, List.map_nil, List.length_cons, List.length_nil, List.cons_append, List.nil_append, List.append_nil, List.replicate_succ, List.replicate_zero, List.getElem?_cons_zero, List.getElem?_cons_succ, List.set_cons_zero, List.set_cons_succ, Bool.false_eq_true, decide_true, decide_false, Bool.not_true, Bool.not_false, ↓reduceIte, Nat.reduceAdd, Nat.reduceSub, Nat.zero_add, Option.isSome, true_and, sAtt, sSetAtt, sMeth, sMake, oInO, disk_at R0.d]
        refine ⟨L, A, .str y, rfl, R0, hv, ?_⟩
        rw [hf]
        simp only [Option.isSome]
        exact tail _ (by unfold oldT; rw [hf]) (fun _ => h8)
  | some i =>
    rw [hf] at hE
    dsimp only at hE
    simp only [Option.isSome, Bool.not_true, apE, sRet, sSeq, sAsg, sIfS, sSkip, sAsgG, sDrop, sRaise, sOp, sCB, sCons, sNil, sVar, sC, sTup, sNeg, sNot, sTest, sNotT, sAndT, sOrT, sAnd, sOr, sIf, sChain, sCall, ini, endOf, kName, kTup2, kTup3, oAdd, oI, oI0, oIs, oType, tyName, isNon_non, isNon_tup, isNon_int, atI_0, atI_1, atI_n, eq2_ii, ne2_ii, List.map_cons, List.map_nil, List.length_cons, List.length_nil, List.cons_append, List.nil_append, List.append_nil, List.replicate_succ, List.replicate_zero, List.getElem?_cons_zero, List.getElem?_cons_succ, List.set_cons_zero, List.set_cons_succ, Bool.false_eq_true, decide_true, decide_false, Bool.not_true, Bool.not_false, ↓reduceIte, Nat.reduceAdd, Nat.reduceSub, Nat.zero_add, Option.isSome, true_and, sAtt, sSetAtt, sMeth, sMake, oInO, disk_at R0.d]
    refine ⟨L, A, .str y, rfl, R0, hv, ?_⟩
    rw [hf]
    simp only [Option.isSome, disk_at R0.d]
    refine ⟨rfl, L, A, n, .str y, rfl, R0, W, hv, fun i' hi' => ?_, fun z => by rw [hf] at z; cases z⟩
    rw [hf] at hi'
    cases hi'
    exact tail _ (by unfold oldT; rw [hf]) (fun z => by rw [hf] at z; cases z)
end K5
set_option Elab.async false
set_option linter.all false
set_option maxRecDepth 100000
set_option maxHeartbeats 1000000
namespace K5
open PySem PySem.Spec PyProof.Rows L2 Sm Wm Cm Kt Tm
variable {K : PySem.W.Frag} {mg : Str → Option Value}
/-- the files' dict, from place b on -/
def flD (b : Nat) (l : List (Str × Str)) : DL := l.zipIdx.map fun q => (.inr q.1.1, .oh (b + q.2))
theorem flD_app (b : Nat) (l : List (Str × Str)) (p : Str × Str) : flD b (l ++ [p]) = flD b l ++ [(.inr p.1, .oh (b + l.length))] := by
  unfold flD
  rw [List.zipIdx_append, List.map_append]
  simp
theorem flD_len (b : Nat) (l : List (Str × Str)) : (flD b l).length = l.length := by simp [flD]
theorem txD_get : ∀ (l : List (Str × Str)), (l.map (·.1)).Nodup → ∀ p ∈ l, getP (txD l) (.inr p.1) = some (.str p.2) := by
  intro l
  induction l with
  | nil => intro _ p hp; cases hp
  | cons a r ih =>
    intro h p hp
    rw [List.map_cons, List.nodup_cons] at h
    unfold getP txD
    rw [List.map_cons, List.find?_cons]
    rcases List.mem_cons.mp hp with rfl | hp
    · simp
    · have ne : ¬ ((Sum.inr a.1 : Key) = .inr p.1) := fun e => h.1 (List.mem_map.mpr ⟨p, hp, (Sum.inr.inj e).symm⟩)
      simp only [decide_eq_false ne]
      exact ih h.2 p hp
theorem put_loop {st0 : Store} {h : Nat} {o : Obj} {kvs : List (Key × V)} {T : List (Str × Str)} {P : PK} {d : PV} (hh : st0[h]? = some (.dck o kvs (txD T))) (nd : (T.map (·.1)).Nodup) (hl : T.length ≤ 100) (ht : ∀ q ∈ T, q.2.length ≤ 10000)
    (hq : P (.dh st0.length) (st0 ++ (Ob.dct (flD (st0.length + 1) T) :: T.map fun q => iFile mg (q.2, q.2.length)))) : ∀ (r done : List (Str × Str)) (y : Option PV), T = done ++ r →
    compD (fun s => s[h]? = some (.dck o kvs (txD T))) st0.length (kName 2) sYes (sVar 2) (sMake (ad mg "DiskFile") (S_DiskFile___init__ mg) [] (sCons (sOp oDIx (sVar 1) (sVar 2)) (sCons (sCB oLen (sCons (sOp oDIx (sVar 1) (sVar 2)) sNil)) sNil))) P (r.map fun p => PV.str p.1) [some d, some (.dh h), y] (st0 ++ (Ob.dct (flD (st0.length + 1) done) :: done.map fun q => iFile mg (q.2, q.2.length))) := by
  have hlt := lt_of hh
  have hC : ∀ e : Store, (st0 ++ e)[h]? = some (.dck o kvs (txD T)) := fun e => by
    rw [List.getElem?_append_left hlt]
    exact hh
  intro r
  induction r with
  | nil =>
    intro done y e
    rw [List.append_nil] at e
    subst e
    exact ⟨hC _, hq⟩
  | cons p r ih =>
    intro done y e
    have mem : p ∈ T := by rw [e]; simp
    have next := ih (done ++ [p]) y (by rw [e]; simp)
    have hd : ∀ e : Store, dctAt (st0 ++ e) (.dh h) = some (txD T) := fun e => by simp only [dctAt, hC]
    have hg : getP (txD T) (.inr p.1) = some (.str p.2) := txD_get T nd p mem
    refine ⟨hC _, ?_⟩
    have htp := ht p mem
    simp only [sRet, sSeq, sAsg, sIfS, sSkip, sAsgG, sDrop, sRaise, sOp, sCB, sCons, sNil, sVar, sC, sTup, sNeg, sNot, sTest, sNotT, sAndT, sOrT, sAnd, sOr, sIf, sChain, sCall, ini, endOf, kName, kTup2, kTup3, oAdd, oI, oI0, oIs, oType, tyName, isNon_non, isNon_tup, isNon_int, atI_0, atI_1, atI_n, eq2_ii, ne2_ii, List.map_cons, List.map_nil, List.length_cons, List.length_nil, List.cons_append, List.nil_append, List.append_nil, List.replicate_succ, List.replicate_zero, List.getElem?_cons_zero, List.getElem?_cons_succ, List.set_cons_zero, List.set_cons_succ, Bool.false_eq_true, decide_true, decide_false, Bool.not_true, Bool.not_false, ↓reduceIte, Nat.reduceAdd, Nat.reduceSub, Nat.zero_add, Option.isSome, true_and, sAtt, sSetAtt, sMeth, sMake, sYes, dix_at (hd _) (v := .str p.1) (k := .inr p.1) rfl hg, oLen]
    refine ⟨by omega, ?_⟩
    refine ⟨_, _, _, rfl, get_end _ _, rfl, ?_⟩
    rw [set_end]
    have e1 : (st0 ++ (Ob.dct (flD (st0.length + 1) done) :: done.map fun q => iFile mg (q.2, q.2.length)) ++ [Ob.ins (ad mg "DiskFile") [(("text" : Str), .str p.2), ("firm_count", .int p.2.length)]])[st0.length]? = some (.dct (flD (st0.length + 1) done)) := by
      rw [List.append_assoc, List.getElem?_append_right (Nat.le_refl _), Nat.sub_self]
      rfl
    simp only [keyP, e1]
    have hn : (Sum.inr p.1 : Key) ∉ (flD (st0.length + 1) done).map (·.1) := by
      intro hm
      unfold flD at hm
      rw [List.map_map] at hm
      obtain ⟨q, hq', e3⟩ := List.mem_map.mp hm
      have e4 : q.1.1 = p.1 := Sum.inr.inj e3
      have hq2 : q.1 ∈ done := (List.mem_zipIdx hq').2.2 ▸ List.getElem_mem _
      rw [e, List.map_append, List.map_cons] at nd
      have := (List.nodup_append.mp nd).2.2 q.1.1 (List.mem_map.mpr ⟨q.1, hq2, rfl⟩) p.1 (by simp)
      exact this e4
    rw [putP_new hn]
    have e2 : (st0 ++ (Ob.dct (flD (st0.length + 1) done) :: done.map fun q => iFile mg (q.2, q.2.length))).length = st0.length + 1 + done.length := by simp; omega
    rw [e2]
    have e5 : (st0 ++ (Ob.dct (flD (st0.length + 1) done) :: done.map fun q => iFile mg (q.2, q.2.length)) ++ [Ob.ins (ad mg "DiskFile") [(("text" : Str), .str p.2), ("firm_count", .int p.2.length)]]).set st0.length (Ob.dct (flD (st0.length + 1) done ++ [(.inr p.1, .oh (st0.length + 1 + done.length))])) = st0 ++ (Ob.dct (flD (st0.length + 1) (done ++ [p])) :: (done ++ [p]).map fun q => iFile mg (q.2, q.2.length)) := by
      rw [List.append_assoc, List.set_append_right _ _ (Nat.le_refl _), Nat.sub_self, flD_app]
      simp [iFile]
    rw [e5]
    refine ⟨?_, next⟩
    rw [flD_len]
    have : done.length ≤ T.length := by rw [e]; simp
    omega
theorem keys_tx (T : List (Str × Str)) : (txD T).map (fun kv => keyV kv.1) = T.map fun p => PV.str p.1 := by
  unfold txD
  rw [List.map_map]
  rfl
theorem p_Disk_put_firm : ∀ pvs st Q PX, S_Disk_put_firm mg pvs st Q PX → t_Disk_put_firm K mg (endOf Q PX) (ini N_Disk_put_firm pvs) st := by
  rintro pvs st Q PX ⟨d, p, n, t, h, l, rfl, hd, hh, nd, hl, ht, hq⟩
  simp only [t_Disk_put_firm, sRet, sSeq, sAsg, sIfS, sSkip, sAsgG, sDrop, sRaise, sOp, sCB, sCons, sNil, sVar, sC, sTup, sNeg, sNot, sTest, sNotT, sAndT, sOrT, sAnd, sOr, sIf, sChain, sCall, ini, endOf, kName, kTup2, kTup3, oAdd, oI, oI0, oIs, oType, tyName, isNon_non, isNon_tup, isNon_int, atI_0, atI_1, atI_n, eq2_ii, ne2_ii, List.map_cons, List.map_nil, List.length_cons, List.length_nil, List.cons_append, List.nil_append, List.append_nil, List.replicate_succ, List.replicate_zero, List.getElem?_cons_zero, List.getElem?_cons_succ, List.set_cons_zero, List.set_cons_succ, Bool.false_eq_true, decide_true, decide_false, Bool.not_true, Bool.not_false, ↓reduceIte, Nat.reduceAdd, Nat.reduceSub, Nat.zero_add, Option.isSome, true_and, sAtt, sSetAtt, sMeth, sMake, sNew, sLockE]
  refine ⟨h, _, hh, fun o kvs => ?_⟩
  have hs := set_at (o' := .dck o kvs (txD l)) hh
  simp only [sDcI, sIKeys, sRet, sSeq, sAsg, sIfS, sSkip, sAsgG, sDrop, sRaise, sOp, sCB, sCons, sNil, sVar, sC, sTup, sNeg, sNot, sTest, sNotT, sAndT, sOrT, sAnd, sOr, sIf, sChain, sCall, ini, endOf, kName, kTup2, kTup3, oAdd, oI, oI0, oIs, oType, tyName, isNon_non, isNon_tup, isNon_int, atI_0, atI_1, atI_n, eq2_ii, ne2_ii, List.map_cons, List.map_nil, List.length_cons, List.length_nil, List.cons_append, List.nil_append, List.append_nil, List.replicate_succ, List.replicate_zero, List.getElem?_cons_zero, List.getElem?_cons_succ, List.set_cons_zero, List.set_cons_succ, Bool.false_eq_true, decide_true, decide_false, Bool.not_true, Bool.not_false, ↓reduceIte, Nat.reduceAdd, Nat.reduceSub, Nat.zero_add, Option.isSome, true_and, sAtt, sSetAtt, sMeth, sMake, hs, keys_tx]
  have := put_loop (mg := mg) (st0 := st.set h (.dck o kvs (txD l))) (d := .oh d) (P := fun v st1 => st1[h]? = some (.dck o kvs (txD l)) ∧ (fun v st1 => 1 ≤ 1000 ∧ (match insAt (ad mg "Disk") (st1 ++ [Ob.lst [v]]) (.oh d) with
    | some fs => fs.length < 1000 ∧ Q .non ((st1 ++ [Ob.lst [v]]).set d (.ins (ad mg "Disk") (putA "_tables" (.hd st1.length) fs)))
    | none => False)) v (st1.set h (.dct (txD l)))) hs nd hl ht ?_ l [] none rfl
  · exact this
  · refine ⟨by rw [List.getElem?_append_left (lt_of hs)]; exact hs, ?_⟩
    rw [List.set_append_left _ _ (lt_of hs), List.set_set, List.length_set]
    have e4 : st.set h (.dct (txD l)) = st := by
      obtain ⟨hlt, e⟩ := List.getElem?_eq_some_iff.mp hh
      rw [← e]
      exact List.set_getElem_self hlt
    rw [e4]
    have ed : (st ++ (Ob.dct (flD (st.length + 1) l) :: l.map fun q => iFile mg (q.2, q.2.length)) ++ [Ob.lst [.dh st.length]])[d]? = some (iDisk mg p n t) := by
      rw [List.append_assoc, List.getElem?_append_left (lt_of hd)]
      exact hd
    simp only [disk_at ed, pa_t]
    refine ⟨by decide, by show 3 < 1000; decide, ?_⟩
    have e6 : (st ++ (Ob.dct (flD (st.length + 1) l) :: l.map fun q => iFile mg (q.2, q.2.length))).length = st.length + 1 + l.length := by simp; omega
    rw [e6]
    have e7 : st ++ (Ob.dct (flD (st.length + 1) l) :: l.map fun q => iFile mg (q.2, q.2.length)) ++ [Ob.lst [.dh st.length]] = st ++ [Ob.dct (l.zipIdx.map fun q => (.inr q.1.1, .oh (st.length + 1 + q.2)))] ++ l.map (fun q => iFile mg (q.2, q.2.length)) ++ [Ob.lst [.dh st.length]] := by
      simp [flD]
    rw [e7]
    exact hq
end K5
set_option Elab.async false
set_option linter.all false
set_option maxRecDepth 100000
set_option maxHeartbeats 1000000
namespace K5
open PySem PySem.Spec PyProof.Rows L2 Sm Wm Cm Kt Tm
variable {K : PySem.W.Frag} {mg : Str → Option Value}
def lsB (K : PySem.W.Frag) (mg : Str → Option Value) : SemS := (sSeq (sAsg (sOp oDIx (sVar 4) (sVar 7)) 8) (sSeq (sAsg (sCall (S__choice_at mg) [] (sCons (sVar 1) (sCons (sOp oAdd (sVar 6) (sC (.int 1))) (sCons (sOp oAdd (sOp oSub (sCB oLen (sCons (sAtt (ad mg "DiskFile") "text" (sVar 8)) sNil)) (sAtt (ad mg "DiskFile") "firm_count" (sVar 8))) (sC (.int 1))) sNil)))) 9) (sSetD (sSl (sAtt (ad mg "DiskFile") "text" (sVar 8)) sPN (sPt (sOp oAdd (sAtt (ad mg "DiskFile") "firm_count" (sVar 8)) (sVar 9)))) (sVar 5) (sVar 7))))
def lsA (K : PySem.W.Frag) (mg : Str → Option Value) : SemS := (sIfS (sNotT (sTest (sCall (S__are_choices mg) [] (sCons (sVar 1) sNil)))) (sRaise (ad mg "InvalidOperation") "message" (sCons (sVar 1) sNil)) sSkip)
def lsM (K : PySem.W.Frag) (mg : Str → Option Value) : SemS := (sAsg (sMakeK (ad mg "Disk") 0 1 (S_Disk___init__ mg) (fun vs zs => vs ++ zs) sNil (sCons (sVar 2) sNil)) 3)
def lsT (K : PySem.W.Frag) (mg : Str → Option Value) : SemS := (sAsg (sOp oIx (sAtt (ad mg "Disk") "_tables" (sVar 0)) (sCall (S__choice_at mg) [] (sCons (sVar 1) (sCons (sC (.int 0)) (sCons (sCB oLen (sCons (sAtt (ad mg "Disk") "_tables" (sVar 0)) sNil)) sNil))))) 4)
def lsZ (K : PySem.W.Frag) (mg : Str → Option Value) : SemS := (sSeq (sDrop (sMeth (ad mg "Disk") "put_firm" (S_Disk_put_firm mg) [] (sVar 3) (sCons (sVar 5) sNil))) (sRet (sVar 3)))
theorem ls_go {D : EndP} {ρ : Sm.Env} {st : Store} (h : sSeq (lsA K mg) (sSeq (lsM K mg) (sSeq (lsT K mg) (sSeq (sAsg sDNew 5) (sSeq (sForI (sIEnumL (sCons (sCB oDSort (sCons (sVar 4) sNil)) sNil)) (kTup2 6 7) (lsB K mg)) (lsZ K mg))))) D ρ st) : t_Disk_lost K mg D ρ st := h
theorem lsB_ok {S : Store} {L : LP} {A : Dk} {T : Tb} {n i k q lf : Nat} {c : List Nat} {y : Str} {f : Str × Nat} {d0 p fo : PV} {v8 v9 : Option PV} {l : DL} {D : EndP}
    (W : WF n A) (hc : c.length ≤ 100) (hcb : ∀ x ∈ c, x < 2 ^ 40) (hT : S[q]? = some (.dct (encT (fOf L.F) T))) (hf : A.fl[i]? = some f) (hg : getT T y = some i) {h : Nat} (hF : fOf L.F i = .oh h) (hh : S[h]? = some (iFile mg f)) (hl : S[lf]? = some (.dct l)) (hll : l.length < 900)
    (hq : ∀ a b, D.nx [some d0, some (cTup c), some p, some fo, some (.dh q), some (.dh lf), some (.int (k : Nat)), some (.str y), some a, some b] (S.set lf (.dct (putP l (.inr y) (.str (cutF c k f).1))))) :
    lsB K mg D [some d0, some (cTup c), some p, some fo, some (.dh q), some (.dh lf), some (.int (k : Nat)), some (.str y), v8, v9] S := by
  have hb := W.fb f (List.mem_of_getElem? hf)
  have hn := W.le
  have hge : getP (encT (fOf L.F) T) (.inr y) = some (.oh h) := by rw [getT_enc, hg]; exact congrArg some hF
  simp only [lsB, sRet, sSeq, sAsg, sIfS, sSkip, sAsgG, sDrop, sRaise, sOp, sCB, sCons, sNil, sVar, sC, sTup, sNeg, sNot, sTest, sNotT, sAndT, sOrT, sAnd, sOr, sIf, sChain, sCall, ini, endOf, kName, kTup2, kTup3, oAdd, oI, oI0, oIs, oType, tyName, isNon_non, isNon_tup, isNon_int, atI_0, atI_1, atI_n, eq2_ii, ne2_ii, List.map_cons, List.map_nil, List.length_cons, List.length_nil, List.cons_append, List.nil_append, List.append_nil, List.replicate_succ, List.replicate_zero, List.getElem?_cons_zero, List.getElem?_cons_succ, List.set_cons_zero, List.set_cons_succ, Bool.false_eq_true, decide_true, decide_false, Bool.not_true, Bool.not_false, ↓reduceIte, Nat.reduceAdd, Nat.reduceSub, Nat.zero_add, Option.isSome, true_and, sAtt, sSetAtt, sMeth, sMake, dix_at (dct_at hT) (v := .str y) (k := .inr y) rfl hge, file_at hh, fk_t, fk_f, oLen]
  refine ⟨by omega, ?_⟩
  have e1 : ((k : Nat) : Int) + 1 = ((k + 1 : Nat) : Int) := by push_cast; rfl
  have e2 : (f.1.length : Int) - (f.2 : Int) + 1 = ((f.1.length - f.2 + 1 : Nat) : Int) := by omega
  rw [e1, e2]
  refine ⟨c, k + 1, f.1.length - f.2 + 1, rfl, by omega, by omega, hc, hcb, ?_⟩
  simp only [sSetD, sRet, sSeq, sAsg, sIfS, sSkip, sAsgG, sDrop, sRaise, sOp, sCB, sCons, sNil, sVar, sC, sTup, sNeg, sNot, sTest, sNotT, sAndT, sOrT, sAnd, sOr, sIf, sChain, sCall, ini, endOf, kName, kTup2, kTup3, oAdd, oI, oI0, oIs, oType, tyName, isNon_non, isNon_tup, isNon_int, atI_0, atI_1, atI_n, eq2_ii, ne2_ii, List.map_cons, List.map_nil, List.length_cons, List.length_nil, List.cons_append, List.nil_append, List.append_nil, List.replicate_succ, List.replicate_zero, List.getElem?_cons_zero, List.getElem?_cons_succ, List.set_cons_zero, List.set_cons_succ, Bool.false_eq_true, decide_true, decide_false, Bool.not_true, Bool.not_false, ↓reduceIte, Nat.reduceAdd, Nat.reduceSub, Nat.zero_add, Option.isSome, true_and, sAtt, sSetAtt, sMeth, sMake, sSl, sPN, sPt, oSl, file_at hh, fk_t, fk_f, keyP, hl]
  refine ⟨by omega, by omega, ?_⟩
  have e3 : ((f.2 : Nat) : Int) + ((pick c (k + 1) (f.1.length - f.2 + 1) : Nat) : Int) = ((f.2 + pick c (k + 1) (f.1.length - f.2 + 1) : Nat) : Int) := by push_cast; rfl
  rw [e3]
  exact hq _ _
/-- the texts that are left -/
def cuts (A : Dk) (T : Tb) (c : List Nat) : Nat → List Str → List (Str × Str)
  | _, [] => []
  | k, y :: r => (y, (cutF c k (A.fl.getD ((getT T y).getD 0) ("", 0))).1) :: cuts A T c (k + 1) r
theorem cuts_fst (A : Dk) (T : Tb) (c : List Nat) : ∀ (ys : List Str) (k : Nat), (cuts A T c k ys).map (·.1) = ys
  | [], _ => rfl
  | y :: r, k => by simp [cuts, cuts_fst A T c r]
theorem cuts_len (A : Dk) (T : Tb) (c : List Nat) (ys : List Str) (k : Nat) : (cuts A T c k ys).length = ys.length := by
  have := congrArg List.length (cuts_fst A T c ys k)
  simpa using this
theorem cuts_fl (A : Dk) (T : Tb) (c : List Nat) : ∀ (ys : List Str) (k : Nat), (cuts A T c k ys).map (fun q => (q.2, q.2.length)) = lostF A T c k ys
  | [], _ => rfl
  | y :: r, k => by
    simp only [cuts, List.map_cons, lostF, cuts_fl A T c r]
    rfl
theorem cuts_app (A : Dk) (T : Tb) (c : List Nat) : ∀ (ys : List Str) (k : Nat) (z : Str), cuts A T c k (ys ++ [z]) = cuts A T c k ys ++ [(z, (cutF c (k + ys.length) (A.fl.getD ((getT T z).getD 0) ("", 0))).1)]
  | [], k, z => rfl
  | y :: r, k, z => by
    simp only [List.cons_append, cuts, cuts_app A T c r, List.length_cons]
    rw [show k + 1 + r.length = k + (r.length + 1) by omega]
theorem txD_app (l : List (Str × Str)) (p : Str × Str) : txD (l ++ [p]) = txD l ++ [(.inr p.1, .str p.2)] := by simp [txD]
theorem lost_loop {S0 : Store} {L : LP} {A : Dk} {T : Tb} {n q lf : Nat} {c : List Nat} {d0 p fo : PV} {D : EndP} {ys : List Str}
    (R : RepP mg S0 L A) (W : WF n A) (hc : c.length ≤ 100) (hcb : ∀ x ∈ c, x < 2 ^ 40) (hT : S0[q]? = some (.dct (encT (fOf L.F) T))) (ok : okT T A.fl.length) (hlf : lf = S0.length) (hys : ∀ y ∈ ys, y ∈ T.map (·.1)) (nd : ys.Nodup) (hl : ys.length ≤ 8)
    (hq : ∀ a b e g, D.nx [some d0, some (cTup c), some p, some fo, some (.dh q), some (.dh lf), a, b, e, g] (S0 ++ [.dct (txD (cuts A T c 0 ys))])) :
    ∀ (r done : List Str) (v6 v7 v8 v9 : Option PV), ys = done ++ r → loopC any (kTup2 6 7) (lsB K mg) D (enumP done.length (r.map PV.str)) [some d0, some (cTup c), some p, some fo, some (.dh q), some (.dh lf), v6, v7, v8, v9] (S0 ++ [.dct (txD (cuts A T c 0 done))]) := by
  intro r
  induction r with
  | nil =>
    intro done v6 v7 v8 v9 e
    rw [List.append_nil] at e
    subst e
    exact ⟨trivial, hq _ _ _ _⟩
  | cons y r ih =>
    intro done v6 v7 v8 v9 e
    refine ⟨trivial, ?_⟩
    simp only [kTup2, List.set_cons_succ, List.set_cons_zero]
    have mem : y ∈ ys := by rw [e]; simp
    obtain ⟨⟨y', i⟩, hp, rfl⟩ := List.mem_map.mp (hys y mem)
    have hg := nodup_find ok.1 _ hp
    have hi := (ok.2.2 _ hp).1
    have hF : i < L.F.length := by rw [R.lF]; exact hi
    have f1 : A.fl[i]? = some A.fl[i] := List.getElem?_eq_getElem hi
    have f2 : L.F[i]? = some L.F[i] := List.getElem?_eq_getElem hF
    have f3 := R.F _ _ _ f2 f1
    have hd : done.length ≤ 8 := by rw [e] at hl; simp at hl; omega
    refine lsB_ok (L := L) (T := T) (n := n) (i := i) (f := A.fl[i]) (l := txD (cuts A T c 0 done)) W hc hcb (by rw [List.getElem?_append_left (lt_of hT)]; exact hT) f1 hg (fOf_at f2) (by rw [List.getElem?_append_left (lt_of f3)]; exact f3) (by rw [hlf]; exact get_end _ _) (by simp [txD, cuts_len]; omega) fun a b => ?_
    have next := ih (done ++ [y']) (some (.int (done.length : Nat))) (some (.str y')) (some a) (some b) (by rw [e]; simp)
    have hn : (Sum.inr y' : Key) ∉ (txD (cuts A T c 0 done)).map (·.1) := by
      intro hm
      unfold txD at hm
      rw [List.map_map] at hm
      obtain ⟨z, hz, e3⟩ := List.mem_map.mp hm
      have e4 : z.1 = y' := Sum.inr.inj e3
      have hz2 : z.1 ∈ done := by
        have : z.1 ∈ (cuts A T c 0 done).map (·.1) := List.mem_map.mpr ⟨z, hz, rfl⟩
        rw [cuts_fst] at this
        exact this
      rw [e] at nd
      exact (List.nodup_append.mp nd).2.2 z.1 hz2 y' (by simp) e4
    rw [putP_new hn, hlf, set_end]
    rw [cuts_app, txD_app, Nat.zero_add] at next
    have e6 : A.fl.getD ((getT T y').getD 0) ("", 0) = A.fl[i] := by
      rw [hg]
      simp [hi]
    rw [e6, List.length_append] at next
    rw [hlf] at next
    exact next
theorem cut_len (z : Str) (m : Nat) : (Txt.slice z none (some (m : Int))).length ≤ z.length := by
  have e : z = SX.S z.cps.toList := by cases z; simp [SX.S]
  rw [e, sl_to]
  simp only [SX.S_len, List.length_take]
  omega
theorem cuts_mem (A : Dk) (T : Tb) (c : List Nat) {n : Nat} (W : WF n A) : ∀ (ys : List Str) (k : Nat), ∀ q ∈ cuts A T c k ys, q.2.length ≤ 20 * n + 20
  | [], _, q, h => by cases h
  | y :: r, k, q, h => by
    rcases List.mem_cons.mp h with rfl | h
    · show (cutF c k (A.fl.getD ((getT T y).getD 0) ("", 0))).1.length ≤ _
      refine Nat.le_trans (cut_len _ _) ?_
      rw [List.getD_eq_getElem?_getD]
      cases e : A.fl[(getT T y).getD 0]? with
      | none => exact Nat.zero_le _
      | some f => exact (W.fb f (List.mem_of_getElem? e)).2
    · exact cuts_mem A T c W r (k + 1) q h
theorem rng_get {b m i h : Nat} (e : ((List.range m).map (b + ·))[i]? = some h) : h = b + i ∧ i < m := by
  rw [List.getElem?_map] at e
  by_cases hi : i < m
  · rw [List.getElem?_range hi] at e
    cases e
    exact ⟨rfl, hi⟩
  · rw [List.getElem?_eq_none (by simpa using hi)] at e
    cases e
theorem RepP.fresh {S : Store} {d n : Nat} {p0 t0 : PV} {pw : Option Nat} {l : List (Str × Str)} (hd : S[d]? = some (iDisk mg p0 n t0)) :
    RepP mg ((S ++ [Ob.dct (l.zipIdx.map fun q => (.inr q.1.1, .oh (S.length + 1 + q.2)))] ++ l.map (fun q => iFile mg (q.2, q.2.length)) ++ [Ob.lst [.dh S.length]]).set d (iDisk mg (pwP pw) 0 (.hd (S.length + 1 + l.length))))
      ⟨d, S.length + 1 + l.length, [S.length], (List.range l.length).map (S.length + 1 + ·)⟩ ⟨(l.map (·.1)).zipIdx, [], l.map (fun q => (q.2, q.2.length)), 0, pw⟩ where
  d := by
    have : (S ++ [Ob.dct (l.zipIdx.map fun q => (.inr q.1.1, .oh (S.length + 1 + q.2)))] ++ l.map (fun q => iFile mg (q.2, q.2.length)) ++ [Ob.lst [.dh S.length]])[d]? = some (iDisk mg p0 n t0) := by
      rw [List.append_assoc, List.append_assoc, List.getElem?_append_left (lt_of hd)]
      exact hd
    exact set_at this
  t := by
    have hlt := lt_of hd
    rw [set_ne (show d ≠ S.length + 1 + l.length by omega), List.getElem?_append_right (by simp; omega)]
    simp
    rw [show S.length + 1 + l.length - (S.length + (l.length + 1)) = 0 from by omega]
    rfl
  ltb := rfl
  tb := fun i h e => by
    have hlt := lt_of hd
    cases i with
    | succ i => simp at e
    | zero =>
      simp at e
      subst e
      rw [set_ne (show d ≠ S.length by omega), List.append_assoc, List.append_assoc, List.getElem?_append_right (Nat.le_refl _), Nat.sub_self]
      simp only [List.cons_append, List.nil_append, List.getElem?_cons_zero, List.take_nil]
      congr 2
      show _ = encT _ ((l.map (·.1)).zipIdx)
      unfold encT
      rw [List.zipIdx_map, List.map_map]
      refine List.map_congr_left fun q hq => ?_
      have hi := (List.mem_zipIdx hq).2.1
      simp only [Function.comp, Prod.map]
      congr 1
      refine (fOf_at ?_).symm
      rw [List.getElem?_map, List.getElem?_range (by simpa using hi)]
      rfl
  lF := by simp
  F := fun i h f e1 e2 => by
    have hlt := lt_of hd
    obtain ⟨rfl, hi⟩ := rng_get e1
    rw [set_ne (show d ≠ S.length + 1 + i by omega), List.append_assoc, List.append_assoc, List.getElem?_append_right (by omega)]
    rw [show S.length + 1 + i - S.length = i + 1 by omega]
    simp only [List.cons_append, List.nil_append, List.getElem?_cons_succ]
    rw [List.getElem?_append_left (by simpa using hi)]
    simp only [List.getElem?_map] at e2 ⊢
    cases e3 : l[i]? with
    | none => rw [e3] at e2; cases e2
    | some q => rw [e3] at e2; cases e2; rfl
  nF := by
    exact List.Pairwise.map _ (fun a b (h : a ≠ b) => by show S.length + 1 + a ≠ S.length + 1 + b; omega) List.nodup_range
theorem p_Disk_lost : ∀ pvs st Q PX, S_Disk_lost mg pvs st Q PX → t_Disk_lost K mg (endOf Q PX) (ini N_Disk_lost pvs) st := by
  rintro pvs st Q PX ⟨L, A, n, v, p, rfl, R, W, hfv, hvl, hx1, hx2, hx3⟩
  apply ls_go
  simp only [lsA, sRet, sSeq, sAsg, sIfS, sSkip, sAsgG, sDrop, sRaise, sOp, sCB, sCons, sNil, sVar, sC, sTup, sNeg, sNot, sTest, sNotT, sAndT, sOrT, sAnd, sOr, sIf, sChain, sCall, ini, endOf, kName, kTup2, kTup3, oAdd, oI, oI0, oIs, oType, tyName, isNon_non, isNon_tup, isNon_int, atI_0, atI_1, atI_n, eq2_ii, ne2_ii, List.map_cons, List.map_nil, List.length_cons, List.length_nil, List.cons_append, List.nil_append, List.append_nil, List.replicate_succ, List.replicate_zero, List.getElem?_cons_zero, List.getElem?_cons_succ, List.set_cons_zero, List.set_cons_succ, Bool.false_eq_true, decide_true, decide_false, Bool.not_true, Bool.not_false, ↓reduceIte, Nat.reduceAdd, Nat.reduceSub, Nat.zero_add, Option.isSome, true_and, sAtt, sSetAtt, sMeth, sMake]
  refine ⟨v, rfl, hfv, hvl, fun st1 he1 => ?_⟩
  cases hcb : choB v with
  | false => exact hx1 hcb st1 he1
  | true =>
  simp only [Bool.not_true, lsM, sRet, sSeq, sAsg, sIfS, sSkip, sAsgG, sDrop, sRaise, sOp, sCB, sCons, sNil, sVar, sC, sTup, sNeg, sNot, sTest, sNotT, sAndT, sOrT, sAnd, sOr, sIf, sChain, sCall, ini, endOf, kName, kTup2, kTup3, oAdd, oI, oI0, oIs, oType, tyName, isNon_non, isNon_tup, isNon_int, atI_0, atI_1, atI_n, eq2_ii, ne2_ii, List.map_cons, List.map_nil, List.length_cons, List.length_nil, List.cons_append, List.nil_append, List.append_nil, List.replicate_succ, List.replicate_zero, List.getElem?_cons_zero, List.getElem?_cons_succ, List.set_cons_zero, List.set_cons_succ, Bool.false_eq_true, decide_true, decide_false, Bool.not_true, Bool.not_false, ↓reduceIte, Nat.reduceAdd, Nat.reduceSub, Nat.zero_add, Option.isSome, true_and, sAtt, sSetAtt, sMeth, sMake, sMakeK]
  refine ⟨st1.length, p, rfl, get_end _ _, ?_⟩
  by_cases hp : badP p
  · right
    obtain ⟨e0, rfl⟩ := he1
    exact ⟨hp, hx2 hcb hp _ ⟨e0 ++ [Ob.ins (ad mg "Disk") []], by simp⟩⟩
  · left
    obtain ⟨c, pw, rfl, hcl, rfl, hpw, hq⟩ := hx3 hcb hp
    refine ⟨pw, rfl, hpw, rfl, ?_⟩
    have hc100 : c.length ≤ 100 := by have := hvl _ rfl; simpa using this
    -- the store with the new disk
    have eS : (st1 ++ [Ob.ins (ad mg "Disk") []] ++ [Ob.dct [], Ob.lst [.dh (st1 ++ [Ob.ins (ad mg "Disk") []]).length]]).set st1.length (iDisk mg (pwP pw) 0 (.hd ((st1 ++ [Ob.ins (ad mg "Disk") []]).length + 1))) = st1 ++ [iDisk mg (pwP pw) 0 (.hd (st1.length + 2)), Ob.dct [], Ob.lst [.dh (st1.length + 1)]] := by
      rw [List.append_assoc, List.set_append_right _ _ (Nat.le_refl _), Nat.sub_self]
      simp
    rw [eS]
    generalize hS2 : st1 ++ [iDisk mg (pwP pw) 0 (.hd (st1.length + 2)), Ob.dct [], Ob.lst [.dh (st1.length + 1)]] = S2
    have kp1 := kp_of_ext (M := []) he1
    have kp2 : Kp [] st S2 := by rw [← hS2]; exact kp1.trans Kp.ext (fun i hi _ => hi)
    have R2 := R.keep kp2 (fun _ _ h => by cases h)
    have hn2 : S2[st1.length]? = some (iDisk mg (pwP pw) 0 (.hd (st1.length + 2))) := by rw [← hS2]; simp
    have hl2 : S2.length = st1.length + 3 := by rw [← hS2]; simp
    simp only [lsT, sRet, sSeq, sAsg, sIfS, sSkip, sAsgG, sDrop, sRaise, sOp, sCB, sCons, sNil, sVar, sC, sTup, sNeg, sNot, sTest, sNotT, sAndT, sOrT, sAnd, sOr, sIf, sChain, sCall, ini, endOf, kName, kTup2, kTup3, oAdd, oI, oI0, oIs, oType, tyName, isNon_non, isNon_tup, isNon_int, atI_0, atI_1, atI_n, eq2_ii, ne2_ii, List.map_cons, List.map_nil, List.length_cons, List.length_nil, List.cons_append, List.nil_append, List.append_nil, List.replicate_succ, List.replicate_zero, List.getElem?_cons_zero, List.getElem?_cons_succ, List.set_cons_zero, List.set_cons_succ, Bool.false_eq_true, decide_true, decide_false, Bool.not_true, Bool.not_false, ↓reduceIte, Nat.reduceAdd, Nat.reduceSub, Nat.zero_add, Option.isSome, true_and, sAtt, sSetAtt, sMeth, sMake, disk_at R2.d, lk_t, oLen, R2.t, List.length_map, R2.ltb]
    have hj := W.jl
    have hn := W.le
    refine ⟨c, 0, A.jr.length + 1, rfl, by omega, by omega, hc100, hcl, ?_⟩
    have hlt : pick c 0 (A.jr.length + 1) < A.jr.length + 1 := by
      unfold pick
      split
      · exact Nat.mod_lt _ (by omega)
      · omega
    generalize hk : pick c 0 (A.jr.length + 1) = k0 at hlt hq
    have hkt : k0 < L.tb.length := by rw [R2.ltb]; exact hlt
    have q1 : L.tb[k0]? = some L.tb[k0] := List.getElem?_eq_getElem hkt
    have q2 := R2.tb _ _ q1
    have hix : atI (L.tb.map PV.dh) (k0 : Nat) = some (.dh L.tb[k0]) := by rw [atI_n, List.getElem?_map, q1]; rfl
    have ok := okJ_take _ _ W.okj k0
    simp only [disk_at R2.d, lk_t, ix_at R2.t hix, sDNew]
    have q3 : (S2 ++ [Ob.dct []])[L.tb[k0]]? = some (.dct (encT (fOf L.F) (runT A.base (A.jr.take k0)))) := by rw [List.getElem?_append_left (lt_of q2)]; exact q2
    simp only [sForI, sIEnumL, sRet, sSeq, sAsg, sIfS, sSkip, sAsgG, sDrop, sRaise, sOp, sCB, sCons, sNil, sVar, sC, sTup, sNeg, sNot, sTest, sNotT, sAndT, sOrT, sAnd, sOr, sIf, sChain, sCall, ini, endOf, kName, kTup2, kTup3, oAdd, oI, oI0, oIs, oType, tyName, isNon_non, isNon_tup, isNon_int, atI_0, atI_1, atI_n, eq2_ii, ne2_ii, List.map_cons, List.map_nil, List.length_cons, List.length_nil, List.cons_append, List.nil_append, List.append_nil, List.replicate_succ, List.replicate_zero, List.getElem?_cons_zero, List.getElem?_cons_succ, List.set_cons_zero, List.set_cons_succ, Bool.false_eq_true, decide_true, decide_false, Bool.not_true, Bool.not_false, ↓reduceIte, Nat.reduceAdd, Nat.reduceSub, Nat.zero_add, Option.isSome, true_and, sAtt, sSetAtt, sMeth, sMake, oDSort, dct_at q3, strKs_enc]
    have h8 : (runT A.base (A.jr.take k0)).length ≤ 8 := ok.2.1
    refine ⟨by rw [List.length_map]; omega, fun ys hperm hsort => ?_⟩
    have nd : ys.Nodup := hperm.nodup_iff.mpr ok.1
    have hyl : ys.length ≤ 8 := by rw [hperm.length_eq, List.length_map]; exact h8
    have := lost_loop (K := K) (mg := mg) (S0 := S2) (L := L) (A := A) (T := runT A.base (A.jr.take k0)) (n := n) (q := L.tb[k0]) (lf := S2.length) (c := c) (d0 := .oh L.d) (p := pwP pw) (fo := .oh st1.length)
      (D := { nx := lsZ K mg { nx := fun _ st' => Q .non st', rt := Q, bk := fun _ _ => False, ct := fun _ _ => False, ex := fun e _ st' => PX e st' }, rt := Q, bk := fun _ _ => False, ct := fun _ _ => False, ex := fun e _ st' => PX e st' }) (ys := ys)
      R2 W hc100 hcl q2 ok rfl (fun y hy => hperm.mem_iff.mp hy) nd hyl (fun a b e g => ?_) ys [] none none none none rfl
    · exact this
    · have hdk : (S2 ++ [Ob.dct (txD (cuts A (runT A.base (A.jr.take k0)) c 0 ys))])[st1.length]? = some (iDisk mg (pwP pw) 0 (.hd (st1.length + 2))) := by rw [List.getElem?_append_left (lt_of hn2)]; exact hn2
      simp only [lsZ, sRet, sSeq, sAsg, sIfS, sSkip, sAsgG, sDrop, sRaise, sOp, sCB, sCons, sNil, sVar, sC, sTup, sNeg, sNot, sTest, sNotT, sAndT, sOrT, sAnd, sOr, sIf, sChain, sCall, ini, endOf, kName, kTup2, kTup3, oAdd, oI, oI0, oIs, oType, tyName, isNon_non, isNon_tup, isNon_int, atI_0, atI_1, atI_n, eq2_ii, ne2_ii, List.map_cons, List.map_nil, List.length_cons, List.length_nil, List.cons_append, List.nil_append, List.append_nil, List.replicate_succ, List.replicate_zero, List.getElem?_cons_zero, List.getElem?_cons_succ, List.set_cons_zero, List.set_cons_succ, Bool.false_eq_true, decide_true, decide_false, Bool.not_true, Bool.not_false, ↓reduceIte, Nat.reduceAdd, Nat.reduceSub, Nat.zero_add, Option.isSome, true_and, sAtt, sSetAtt, sMeth, sMake, disk_at hdk]
      refine ⟨rfl, st1.length, pwP pw, 0, _, S2.length, cuts A (runT A.base (A.jr.take k0)) c 0 ys, rfl, hdk, get_end _ _, by rw [cuts_fst]; exact nd, by rw [cuts_len]; omega, fun q hq2 => ?_, ?_⟩
      · have := cuts_mem A (runT A.base (A.jr.take k0)) c W ys 0 q hq2
        omega
      · have RR := RepP.fresh (mg := mg) (pw := pw) (l := cuts A (runT A.base (A.jr.take k0)) c 0 ys) hdk
        rw [cuts_fst, cuts_fl] at RR
        have eA : opLost A c pw ys = ⟨ys.zipIdx, [], lostF A (runT A.base (A.jr.take k0)) c 0 ys, 0, pw⟩ := by
          unfold opLost
          rw [hk]
        rw [← eA] at RR
        refine hq ys hperm hsort _ _ RR (fun i hi => ?_) ?_
        · have h1 := kp1.1
          simp only [LP.hs, List.mem_cons, List.mem_append, List.not_mem_nil, or_false, List.length_append, List.length_cons, List.length_nil, hl2] at hi
          rcases hi with hi | hi | hi | hi
          · omega
          · omega
          · omega
          · obtain ⟨j, _, rfl⟩ := List.mem_map.mp hi
            have z : st.length ≤ st1.length + 3 + (0 + 1) + 1 + j := by omega
            exact z
        · have h1 := kp1.1
          refine ⟨by simp; omega, fun i hi _ => ?_⟩
          rw [set_ne (show st1.length ≠ i by omega), List.append_assoc, List.append_assoc, List.append_assoc, List.getElem?_append_left (by omega)]
          exact kp2.2 i hi (by simp)
end K5
set_option Elab.async false
set_option linter.all false
set_option maxRecDepth 100000
set_option maxHeartbeats 1000000
namespace K5
open PySem PySem.Spec PyProof.Rows L2 Sm Wm Cm Kt Tm
variable {K : PySem.W.Frag} {mg : Str → Option Value}
theorem p__law_new : ∀ pvs st Q PX, S__law_new mg pvs st Q PX → t__law_new K mg (endOf Q PX) (ini N__law_new pvs) st := by
  rintro pvs st Q PX ⟨p, rfl, hq⟩
  simp only [t__law_new, sRet, sSeq, sAsg, sIfS, sSkip, sAsgG, sDrop, sRaise, sOp, sCB, sCons, sNil, sVar, sC, sTup, sNeg, sNot, sTest, sNotT, sAndT, sOrT, sAnd, sOr, sIf, sChain, sCall, ini, endOf, kName, kTup2, kTup3, oAdd, oI, oI0, oIs, oType, tyName, isNon_non, isNon_tup, isNon_int, atI_0, atI_1, atI_n, eq2_ii, ne2_ii, List.map_cons, List.map_nil, List.length_cons, List.length_nil, List.cons_append, List.nil_append, List.append_nil, List.replicate_succ, List.replicate_zero, List.getElem?_cons_zero, List.getElem?_cons_succ, List.set_cons_zero, List.set_cons_succ, Bool.false_eq_true, decide_true, decide_false, Bool.not_true, Bool.not_false, ↓reduceIte, Nat.reduceAdd, Nat.reduceSub, Nat.zero_add, Option.isSome, true_and, sAtt, sSetAtt, sMeth, sMake, sNew, sDNew, List.length_append, List.append_assoc]
  exact ⟨by decide, by decide, hq⟩
def lnB (K : PySem.W.Frag) (mg : Str → Option Value) : SemS := (sIfS (sTest (sOp oEq2 (sVar 3) (sC (.str "make")))) (sSetD (sVar 5) (sVar 2) (sVar 4)) (sIfS (sTest (sOp oEq2 (sVar 3) (sC (.str "remove")))) (sDrop (sDPop (sVar 2) (sVar 4))) (sSetD (sDPop (sVar 2) (sVar 4)) (sVar 2) (sVar 5))))
theorem ln_go {D : EndP} {ρ : Sm.Env} {st : Store} (h : sSeq (sAsg (sCB oDCopy (sCons (sOp oIx (sVar 0) (sC (.int 0))) sNil)) 2) (sSeq (sForI (sISeq (sSl (sOp oIx (sVar 0) (sC (.int 1))) sPN (sPt (sVar 1)))) (kTup3 3 4 5) (lnB K mg)) (sRet (sVar 2))) D ρ st) : t__law_names K mg D ρ st := h
theorem eq2_ss (a b : Str) (st : Store) (P : Sm.PK) : oEq2 (.str a) (.str b) st P = P (.bl (decide (a = b))) st := rfl
theorem cut_to (xs : List PV) (i : Nat) (h : i ≤ xs.length) : cutP xs none (some ((i : Nat) : Int)) = xs.take i := by
  unfold cutP
  rw [HT.sIx_nat, HT.sIx_none]
  simp
theorem lnB_ok {S0 : Store} {T : Tb} {o0 m0 : PV} {j : Jn} {r : List Jn} {m : Nat} {v3 v4 v5 : Option PV} {D : EndP} (ok : okJ m T (j :: r))
    (hq : ∀ a b c, D.nx [some o0, some m0, some (.dh S0.length), a, b, c] (S0 ++ [.dct (encT iNum (app T j))])) :
    ∀ w x y, j.enc = .tup [w, x, y] → lnB K mg D [some o0, some m0, some (.dh S0.length), some w, some x, some y] (S0 ++ [.dct (encT iNum T)]) := by
  intro w x y e
  have h8 : (encT iNum T).length ≤ 8 := by rw [encT_len]; exact ok.1.2.1
  cases j with
  | make n i =>
    cases e
    simp only [lnB, sRet, sSeq, sAsg, sIfS, sSkip, sAsgG, sDrop, sRaise, sOp, sCB, sCons, sNil, sVar, sC, sTup, sNeg, sNot, sTest, sNotT, sAndT, sOrT, sAnd, sOr, sIf, sChain, sCall, ini, endOf, kName, kTup2, kTup3, oAdd, oI, oI0, oIs, oType, tyName, isNon_non, isNon_tup, isNon_int, atI_0, atI_1, atI_n, eq2_ii, ne2_ii, List.map_cons, List.map_nil, List.length_cons, List.length_nil, List.cons_append, List.nil_append, List.append_nil, List.replicate_succ, List.replicate_zero, List.getElem?_cons_zero, List.getElem?_cons_succ, List.set_cons_zero, List.set_cons_succ, Bool.false_eq_true, decide_true, decide_false, Bool.not_true, Bool.not_false, ↓reduceIte, Nat.reduceAdd, Nat.reduceSub, Nat.zero_add, Option.isSome, true_and, sAtt, sSetAtt, sMeth, sMake, eq2_ss]
    simp only [sSetD, sRet, sSeq, sAsg, sIfS, sSkip, sAsgG, sDrop, sRaise, sOp, sCB, sCons, sNil, sVar, sC, sTup, sNeg, sNot, sTest, sNotT, sAndT, sOrT, sAnd, sOr, sIf, sChain, sCall, ini, endOf, kName, kTup2, kTup3, oAdd, oI, oI0, oIs, oType, tyName, isNon_non, isNon_tup, isNon_int, atI_0, atI_1, atI_n, eq2_ii, ne2_ii, List.map_cons, List.map_nil, List.length_cons, List.length_nil, List.cons_append, List.nil_append, List.append_nil, List.replicate_succ, List.replicate_zero, List.getElem?_cons_zero, List.getElem?_cons_succ, List.set_cons_zero, List.set_cons_succ, Bool.false_eq_true, decide_true, decide_false, Bool.not_true, Bool.not_false, ↓reduceIte, Nat.reduceAdd, Nat.reduceSub, Nat.zero_add, Option.isSome, true_and, sAtt, sSetAtt, sMeth, sMake, keyP, get_end, set_end]
    have := putT_enc iNum n i T
    refine ⟨by omega, ?_⟩
    have e2 : PV.int ((i : Nat) : Int) = iNum i := rfl
    rw [e2, this]
    exact hq _ _ _
  | remove n v =>
    cases e
    simp only [lnB, sRet, sSeq, sAsg, sIfS, sSkip, sAsgG, sDrop, sRaise, sOp, sCB, sCons, sNil, sVar, sC, sTup, sNeg, sNot, sTest, sNotT, sAndT, sOrT, sAnd, sOr, sIf, sChain, sCall, ini, endOf, kName, kTup2, kTup3, oAdd, oI, oI0, oIs, oType, tyName, isNon_non, isNon_tup, isNon_int, atI_0, atI_1, atI_n, eq2_ii, ne2_ii, List.map_cons, List.map_nil, List.length_cons, List.length_nil, List.cons_append, List.nil_append, List.append_nil, List.replicate_succ, List.replicate_zero, List.getElem?_cons_zero, List.getElem?_cons_succ, List.set_cons_zero, List.set_cons_succ, Bool.false_eq_true, decide_true, decide_false, Bool.not_true, Bool.not_false, ↓reduceIte, Nat.reduceAdd, Nat.reduceSub, Nat.zero_add, Option.isSome, true_and, sAtt, sSetAtt, sMeth, sMake, eq2_ss]
    rw [show decide (Str.ofString "remove" = Str.ofString "make") = false from by decide +kernel]
    simp only [sDPop, sRet, sSeq, sAsg, sIfS, sSkip, sAsgG, sDrop, sRaise, sOp, sCB, sCons, sNil, sVar, sC, sTup, sNeg, sNot, sTest, sNotT, sAndT, sOrT, sAnd, sOr, sIf, sChain, sCall, ini, endOf, kName, kTup2, kTup3, oAdd, oI, oI0, oIs, oType, tyName, isNon_non, isNon_tup, isNon_int, atI_0, atI_1, atI_n, eq2_ii, ne2_ii, List.map_cons, List.map_nil, List.length_cons, List.length_nil, List.cons_append, List.nil_append, List.append_nil, List.replicate_succ, List.replicate_zero, List.getElem?_cons_zero, List.getElem?_cons_succ, List.set_cons_zero, List.set_cons_succ, Bool.false_eq_true, decide_true, decide_false, Bool.not_true, Bool.not_false, ↓reduceIte, Nat.reduceAdd, Nat.reduceSub, Nat.zero_add, Option.isSome, true_and, sAtt, sSetAtt, sMeth, sMake, keyP, get_end, dctAt]
    obtain ⟨i, hi⟩ := Option.isSome_iff_exists.mp ok.2.1
    have hg : getP (encT iNum T) (.inr n) = some (iNum i) := by rw [getT_enc, hi]; rfl
    simp only [hg, set_end, dropT_enc]
    exact hq _ _ _
  | rename o n =>
    cases e
    simp only [lnB, sRet, sSeq, sAsg, sIfS, sSkip, sAsgG, sDrop, sRaise, sOp, sCB, sCons, sNil, sVar, sC, sTup, sNeg, sNot, sTest, sNotT, sAndT, sOrT, sAnd, sOr, sIf, sChain, sCall, ini, endOf, kName, kTup2, kTup3, oAdd, oI, oI0, oIs, oType, tyName, isNon_non, isNon_tup, isNon_int, atI_0, atI_1, atI_n, eq2_ii, ne2_ii, List.map_cons, List.map_nil, List.length_cons, List.length_nil, List.cons_append, List.nil_append, List.append_nil, List.replicate_succ, List.replicate_zero, List.getElem?_cons_zero, List.getElem?_cons_succ, List.set_cons_zero, List.set_cons_succ, Bool.false_eq_true, decide_true, decide_false, Bool.not_true, Bool.not_false, ↓reduceIte, Nat.reduceAdd, Nat.reduceSub, Nat.zero_add, Option.isSome, true_and, sAtt, sSetAtt, sMeth, sMake, eq2_ss]
    rw [show decide (Str.ofString "rename" = Str.ofString "make") = false from by decide +kernel, show decide (Str.ofString "rename" = Str.ofString "remove") = false from by decide +kernel]
    simp only [sSetD, sDPop, sRet, sSeq, sAsg, sIfS, sSkip, sAsgG, sDrop, sRaise, sOp, sCB, sCons, sNil, sVar, sC, sTup, sNeg, sNot, sTest, sNotT, sAndT, sOrT, sAnd, sOr, sIf, sChain, sCall, ini, endOf, kName, kTup2, kTup3, oAdd, oI, oI0, oIs, oType, tyName, isNon_non, isNon_tup, isNon_int, atI_0, atI_1, atI_n, eq2_ii, ne2_ii, List.map_cons, List.map_nil, List.length_cons, List.length_nil, List.cons_append, List.nil_append, List.append_nil, List.replicate_succ, List.replicate_zero, List.getElem?_cons_zero, List.getElem?_cons_succ, List.set_cons_zero, List.set_cons_succ, Bool.false_eq_true, decide_true, decide_false, Bool.not_true, Bool.not_false, ↓reduceIte, Nat.reduceAdd, Nat.reduceSub, Nat.zero_add, Option.isSome, true_and, sAtt, sSetAtt, sMeth, sMake, keyP, get_end, dctAt]
    obtain ⟨i, hi⟩ := Option.isSome_iff_exists.mp ok.2.1
    have hg : getP (encT iNum T) (.inr o) = some (iNum i) := by rw [getT_enc, hi]; rfl
    simp only [hg, set_end, dropT_enc, get_end, putT_enc]
    refine ⟨?_, ?_⟩
    · have : (encT iNum (dropT T o)).length ≤ 8 := by
        rw [encT_len]
        exact Nat.le_trans (List.length_filter_le _ _) ok.1.2.1
      omega
    · have e3 : app T (.rename o n) = putT (dropT T o) n i := by
        show (match getT T o with | some i => _ | none => _) = _
        rw [hi]
      rw [e3] at hq
      exact hq _ _ _
theorem ln_loop {S0 : Store} {o0 m0 : PV} {m : Nat} {D : EndP} : ∀ (l : List Jn) (T : Tb), okJ m T l → (∀ a b c, D.nx [some o0, some m0, some (.dh S0.length), a, b, c] (S0 ++ [.dct (encT iNum (runT T l))])) →
    ∀ (C : Store → Prop) (v3 v4 v5 : Option PV), (∀ D, C (S0 ++ [.dct D])) → loopC C (kTup3 3 4 5) (lnB K mg) D (l.map Jn.enc) [some o0, some m0, some (.dh S0.length), v3, v4, v5] (S0 ++ [.dct (encT iNum T)])
  | [], T, ok, hq, C, v3, v4, v5, hC => ⟨hC _, hq _ _ _⟩
  | j :: r, T, ok, hq, C, v3, v4, v5, hC => by
    have go := fun a b c => ln_loop (S0 := S0) (o0 := o0) (m0 := m0) (D := D) r (app T j) ok.2.2 hq C a b c hC
    have e : ∃ w x y, j.enc = .tup [w, x, y] := by cases j <;> exact ⟨_, _, _, rfl⟩
    obtain ⟨w, x, y, e⟩ := e
    have := lnB_ok (K := K) (mg := mg) (S0 := S0) (o0 := o0) (m0 := m0) (v3 := v3) (v4 := v4) (v5 := v5) (D := { D with nx := loopC C (kTup3 3 4 5) (lnB K mg) D (r.map Jn.enc), ct := loopC C (kTup3 3 4 5) (lnB K mg) D (r.map Jn.enc), bk := D.nx }) ok go w x y e
    refine ⟨hC _, ?_⟩
    rw [e]
    exact this
theorem take_enc (l : List Jn) (i : Nat) : (l.map Jn.enc).take i = (l.take i).map Jn.enc := by rw [List.map_take]
theorem okJ_pre {m : Nat} : ∀ (l : List Jn) (T : Tb) (i : Nat), okJ m T l → okJ m T (l.take i)
  | [], T, i, h => by rw [List.take_nil]; exact h
  | j :: r, T, 0, h => h.1
  | j :: r, T, i + 1, h => ⟨h.1, h.2.1, okJ_pre r _ i h.2.2⟩
theorem p__law_names : ∀ pvs st Q PX, S__law_names mg pvs st Q PX → t__law_names K mg (endOf Q PX) (ini N__law_names pvs) st := by
  rintro pvs st Q PX ⟨L, A, n, many, rfl, R, W, hm, hq⟩
  apply ln_go
  simp only [sRet, sSeq, sAsg, sIfS, sSkip, sAsgG, sDrop, sRaise, sOp, sCB, sCons, sNil, sVar, sC, sTup, sNeg, sNot, sTest, sNotT, sAndT, sOrT, sAnd, sOr, sIf, sChain, sCall, ini, endOf, kName, kTup2, kTup3, oAdd, oI, oI0, oIs, oType, tyName, isNon_non, isNon_tup, isNon_int, atI_0, atI_1, atI_n, eq2_ii, ne2_ii, List.map_cons, List.map_nil, List.length_cons, List.length_nil, List.cons_append, List.nil_append, List.append_nil, List.replicate_succ, List.replicate_zero, List.getElem?_cons_zero, List.getElem?_cons_succ, List.set_cons_zero, List.set_cons_succ, Bool.false_eq_true, decide_true, decide_false, Bool.not_true, Bool.not_false, ↓reduceIte, Nat.reduceAdd, Nat.reduceSub, Nat.zero_add, Option.isSome, true_and, sAtt, sSetAtt, sMeth, sMake, ix_at R.o (i := 0) (x := .dh L.n0) rfl, oDCopy, dct_at R.n0]
  have o2 : (st ++ [Ob.dct (encT iNum A.base)])[L.o]? = some (.lst [.dh L.n0, .hd L.j, .dh L.f, .int (A.steps : Nat), pwP A.pow]) := by rw [List.getElem?_append_left (lt_of R.o)]; exact R.o
  have j2 : (st ++ [Ob.dct (encT iNum A.base)])[L.j]? = some (.lst (A.jr.map Jn.enc)) := by rw [List.getElem?_append_left (lt_of R.j)]; exact R.j
  simp only [sForI, sISeq, sSl, sRet, sSeq, sAsg, sIfS, sSkip, sAsgG, sDrop, sRaise, sOp, sCB, sCons, sNil, sVar, sC, sTup, sNeg, sNot, sTest, sNotT, sAndT, sOrT, sAnd, sOr, sIf, sChain, sCall, ini, endOf, kName, kTup2, kTup3, oAdd, oI, oI0, oIs, oType, tyName, isNon_non, isNon_tup, isNon_int, atI_0, atI_1, atI_n, eq2_ii, ne2_ii, List.map_cons, List.map_nil, List.length_cons, List.length_nil, List.cons_append, List.nil_append, List.append_nil, List.replicate_succ, List.replicate_zero, List.getElem?_cons_zero, List.getElem?_cons_succ, List.set_cons_zero, List.set_cons_succ, Bool.false_eq_true, decide_true, decide_false, Bool.not_true, Bool.not_false, ↓reduceIte, Nat.reduceAdd, Nat.reduceSub, Nat.zero_add, Option.isSome, true_and, sAtt, sSetAtt, sMeth, sMake, ix_at o2 (i := 1) (x := .hd L.j) rfl, sPN, sPt, oSl, j2]
  have e : cutP (A.jr.map Jn.enc) none (some ((many : Nat) : Int)) = (A.jr.take many).map Jn.enc := by
    rw [cut_to _ _ (by rw [List.length_map]; exact hm), take_enc]
  rw [e]
  refine ln_loop (A.jr.take many) A.base (okJ_pre _ _ _ W.okj) (fun a b c => ?_) any _ _ _ (fun _ => trivial)
  exact hq
end K5
set_option Elab.async false
set_option linter.all false
set_option maxRecDepth 100000
set_option maxHeartbeats 1000000
namespace K5
open PySem PySem.Spec PyProof.Rows L2 Sm Wm Cm Kt Tm
variable {K : PySem.W.Frag} {mg : Str → Option Value}
def bad1 : PV → Bool
  | .str s => (match s.cps.toList with
    | [c] => !decide (c ∈ ("abcdefghijklmnopqrstuvwxyz0123456789" : Str).cps.toList)
    | _ => true)
  | _ => true
theorem comp_filter {i n : Nat} {c : SemT} {ρ : Sm.Env} {P : Sm.PK} (g : PV → Bool) (hi : ∀ x, (ρ.set i (some x))[i]? = some (some x)) : ∀ (l acc : List PV) (st : Store), st[n]? = some (.lst acc) → acc.length + l.length < 100000 →
    (∀ x ∈ l, ∀ (st : Store) (P : Bool → Store → Prop) (PX : Sm.XP), P (g x) st → c (ρ.set i (some x)) st P PX) → P (.hd n) (st.set n (.lst (acc ++ l.filter g))) → compL i n c (sVar i) P l ρ st
  | [], acc, st, hn, hl, hf, hp => by
    obtain ⟨hlt, e⟩ := List.getElem?_eq_some_iff.mp hn
    rw [List.filter_nil, List.append_nil, ← e, List.set_getElem_self hlt] at hp
    exact hp
  | x :: r, acc, st, hn, hl, hf, hp => by
    simp only [List.length_cons] at hl
    refine hf x (List.mem_cons_self ..) st _ _ ?_
    cases hg : g x with
    | true =>
      simp only [sVar, hi, hn]
      refine ⟨by omega, ?_⟩
      refine comp_filter g hi r (acc ++ [x]) _ (by rw [List.getElem?_set_self (lt_of hn)]) (by simp; omega) (fun y hy => hf y (List.mem_cons_of_mem _ hy)) ?_
      rw [List.set_set, List.append_assoc]
      rw [List.filter_cons_of_pos hg] at hp
      exact hp
    | false =>
      rw [List.filter_cons_of_neg (by rw [hg]; exact Bool.false_ne_true)] at hp
      exact comp_filter g hi r acc st hn (by omega) (fun y hy => hf y (List.mem_cons_of_mem _ hy)) hp
theorem dats_str : ∀ l : List Str, dats0 (l.map .str) = some (l.map .str)
  | [] => rfl
  | x :: r => by simp only [List.map_cons, dats0, dat0, dats_str r]
theorem sh_strs {l : List Str} (h : ∀ x ∈ l, PyData.strOk x = true) : PyData.canLayAll0 (l.map .str) = true ∧ PyData.depthAll (l.map .str) ≤ 1 := by
  induction l with
  | nil => exact ⟨rfl, by decide⟩
  | cons x r ih =>
    have h1 := ih fun y hy => h y (List.mem_cons_of_mem _ hy)
    have h2 := h x (List.mem_cons_self ..)
    constructor
    · simp only [List.map_cons, PyData.canLayAll0, PyData.canLay0, h2, h1.1, Bool.and_self]
    · simp only [List.map_cons, PyData.depthAll, PyData.depth]
      have := h1.2
      omega
theorem shp_l {l : List Str} (h : ∀ x ∈ l, PyData.strOk x = true) : SeqAt.shaped (.list (l.map .str)) = true := by
  unfold SeqAt.shaped
  rw [Bool.and_eq_true]
  refine ⟨(sh_strs h).1, decide_eq_true ?_⟩
  have := (sh_strs h).2
  simp only [PyData.depth]
  omega
theorem shp_t {l : List Str} (h : ∀ x ∈ l, PyData.strOk x = true) : SeqAt.shaped (.tuple (l.map .str)) = true := by
  unfold SeqAt.shaped
  rw [Bool.and_eq_true]
  refine ⟨(sh_strs h).1, decide_eq_true ?_⟩
  have := (sh_strs h).2
  simp only [PyData.depth]
  omega
theorem eq_nil {n : Nat} {l : List Str} {st : Store} {P : Sm.PK} (hn : st[n]? = some (.lst (l.map .str))) (h : ∀ x ∈ l, PyData.strOk x = true) : oEq2 (.hd n) (.lst []) st P = P (.bl l.isEmpty) st := by
  have e1 : dat st (.hd n) = some (.list (l.map .str)) := by simp only [dat, hn, dats_str, Option.map_some]
  have e2 : dat st (.lst []) = some (.list []) := rfl
  show oEq (.hd n) (.lst []) st P = _
  unfold oEq
  rw [e1, e2]
  simp only [shp_l h, show SeqAt.shaped (.list []) = true from by decide +kernel, true_and]
  cases l with
  | nil => simp [PyData.eqv, PyData.eqvAll]
  | cons x r => simp [PyData.eqv, PyData.eqvAll]
theorem all_empty (l : List Nat) : (l.all fun c => decide (c ∈ letters.cps.toList) || decide (c ∈ digs.cps.toList)) = ((l.filter fun c => !decide (c ∈ ("abcdefghijklmnopqrstuvwxyz0123456789" : Str).cps.toList)).map fun c => (⟨#[c]⟩ : Str)).isEmpty := by
  have ea : ("abcdefghijklmnopqrstuvwxyz0123456789" : Str).cps.toList = letters.cps.toList ++ digs.cps.toList := by decide +kernel
  rw [ea]
  induction l with
  | nil => rfl
  | cons c r ih =>
    rw [List.all_cons, ih]
    by_cases h1 : c ∈ letters.cps.toList
    · have e : (!decide (c ∈ letters.cps.toList ++ digs.cps.toList)) = false := by simp [h1]
      rw [List.filter_cons_of_neg (by rw [e]; exact Bool.false_ne_true)]
      simp [h1]
    · by_cases h2 : c ∈ digs.cps.toList
      · have e : (!decide (c ∈ letters.cps.toList ++ digs.cps.toList)) = false := by simp [h2]
        rw [List.filter_cons_of_neg (by rw [e]; exact Bool.false_ne_true)]
        simp [h2]
      · have e : (!decide (c ∈ letters.cps.toList ++ digs.cps.toList)) = true := by simp [h1, h2]
        have g1 : c ∉ letters.cps := by simpa using h1
        have g2 : c ∉ digs.cps := by simpa using h2
        simp [List.filter_cons, g1, g2]
theorem sign_ok {s : Str} {c : Nat} (h : PyData.strOk s = true) (hc : c ∈ s.cps.toList) : PyData.strOk ⟨#[c]⟩ = true := by
  unfold PyData.strOk at h ⊢
  have := Array.all_eq_true'.mp h c (by simpa using hc)
  simpa using this
theorem p__law_is_name : ∀ pvs st Q PX, S__law_is_name mg pvs st Q PX → t__law_is_name K mg (endOf Q PX) (ini N__law_is_name pvs) st := by
  rintro pvs st Q PX ⟨v, rfl, hv, hq⟩
  have e0 : Ext st st := ⟨[], by simp⟩
  cases v <;> first | exact hv.elim | skip
  · simp only [t__law_is_name, sRet, sSeq, sAsg, sIfS, sSkip, sAsgG, sDrop, sRaise, sOp, sCB, sCons, sNil, sVar, sC, sTup, sNeg, sNot, sTest, sNotT, sAndT, sOrT, sAnd, sOr, sIf, sChain, sCall, ini, endOf, kName, kTup2, kTup3, oAdd, oI, oI0, oIs, oType, tyName, isNon_non, isNon_tup, isNon_int, atI_0, atI_1, atI_n, eq2_ii, ne2_ii, List.map_cons, List.map_nil, List.length_cons, List.length_nil, List.cons_append, List.nil_append, List.append_nil, List.replicate_succ, List.replicate_zero, List.getElem?_cons_zero, List.getElem?_cons_succ, List.set_cons_zero, List.set_cons_succ, Bool.false_eq_true, decide_true, decide_false, Bool.not_true, Bool.not_false, ↓reduceIte, Nat.reduceAdd, Nat.reduceSub, Nat.zero_add, Option.isSome, true_and, sAtt, sSetAtt, sMeth, sMake, oIsStr]
    exact hq st e0
  · rename_i s
    have hs : s.length ≤ 20 := hv.1
    simp only [t__law_is_name, sRet, sSeq, sAsg, sIfS, sSkip, sAsgG, sDrop, sRaise, sOp, sCB, sCons, sNil, sVar, sC, sTup, sNeg, sNot, sTest, sNotT, sAndT, sOrT, sAnd, sOr, sIf, sChain, sCall, ini, endOf, kName, kTup2, kTup3, oAdd, oI, oI0, oIs, oType, tyName, isNon_non, isNon_tup, isNon_int, atI_0, atI_1, atI_n, eq2_ii, ne2_ii, List.map_cons, List.map_nil, List.length_cons, List.length_nil, List.cons_append, List.nil_append, List.append_nil, List.replicate_succ, List.replicate_zero, List.getElem?_cons_zero, List.getElem?_cons_succ, List.set_cons_zero, List.set_cons_succ, Bool.false_eq_true, decide_true, decide_false, Bool.not_true, Bool.not_false, ↓reduceIte, Nat.reduceAdd, Nat.reduceSub, Nat.zero_add, Option.isSome, true_and, sAtt, sSetAtt, sMeth, sMake, oIsStr, oLen]
    refine ⟨by omega, ?_⟩
    have hsz : s.length = s.cps.size := rfl
    by_cases h1 : (1 : Int) ≤ (s.length : Int)
    · rw [decide_eq_true h1]
      dsimp only
      by_cases h2 : (s.length : Int) ≤ 8
      · rw [decide_eq_true h2]
        have e1 : decide (1 ≤ s.length) = true := decide_eq_true (by omega)
        have e2 : decide (s.length ≤ 8) = true := decide_eq_true (by omega)
        cases hl : s.cps.toList with
        | nil =>
          have : s.cps.toList.length = 0 := by rw [hl]; rfl
          simp only [Array.length_toList] at this
          omega
        | cons c r =>
          have el : (Str.ofString "abcdefghijklmnopqrstuvwxyz") = letters := rfl
          simp only [Bool.not_true, oIx, hl, atI_0, oInS]
          refine ⟨by omega, c, rfl, ?_⟩
          simp only [if_true, el]
          simp only [nameB, e1, e2, Bool.true_and, hl] at hq
          cases h3 : decide (c ∈ letters.cps.toList) with
          | false =>
            have := hq st e0
            rw [h3] at this
            exact this
          | true =>
            simp only [Bool.not_true, sLc, itemsS, wipeE, sRet, sSeq, sAsg, sIfS, sSkip, sAsgG, sDrop, sRaise, sOp, sCB, sCons, sNil, sVar, sC, sTup, sNeg, sNot, sTest, sNotT, sAndT, sOrT, sAnd, sOr, sIf, sChain, sCall, ini, endOf, kName, kTup2, kTup3, oAdd, oI, oI0, oIs, oType, tyName, isNon_non, isNon_tup, isNon_int, atI_0, atI_1, atI_n, eq2_ii, ne2_ii, List.map_cons, List.map_nil, List.length_cons, List.length_nil, List.cons_append, List.nil_append, List.append_nil, List.replicate_succ, List.replicate_zero, List.getElem?_cons_zero, List.getElem?_cons_succ, List.set_cons_zero, List.set_cons_succ, Bool.false_eq_true, decide_true, decide_false, Bool.not_true, Bool.not_false, ↓reduceIte, Nat.reduceAdd, Nat.reduceSub, Nat.zero_add, Option.isSome, true_and, sAtt, sSetAtt, sMeth, sMake]
            refine comp_filter bad1 (fun x => rfl) (signsOf s) [] _ (get_end st _) (by simp [signsOf]; omega) (fun x hx st P PX hp => ?_) ?_
            · obtain ⟨cc, _, rfl⟩ := List.mem_map.mp hx
              simp only [sRet, sSeq, sAsg, sIfS, sSkip, sAsgG, sDrop, sRaise, sOp, sCB, sCons, sNil, sVar, sC, sTup, sNeg, sNot, sTest, sNotT, sAndT, sOrT, sAnd, sOr, sIf, sChain, sCall, ini, endOf, kName, kTup2, kTup3, oAdd, oI, oI0, oIs, oType, tyName, isNon_non, isNon_tup, isNon_int, atI_0, atI_1, atI_n, eq2_ii, ne2_ii, List.map_cons, List.map_nil, List.length_cons, List.length_nil, List.cons_append, List.nil_append, List.append_nil, List.replicate_succ, List.replicate_zero, List.getElem?_cons_zero, List.getElem?_cons_succ, List.set_cons_zero, List.set_cons_succ, Bool.false_eq_true, decide_true, decide_false, Bool.not_true, Bool.not_false, ↓reduceIte, Nat.reduceAdd, Nat.reduceSub, Nat.zero_add, Option.isSome, true_and, sAtt, sSetAtt, sMeth, sMake, oInS]
              exact ⟨cc, rfl, hp⟩
            · rw [set_end]
              simp only [sLst, sRet, sSeq, sAsg, sIfS, sSkip, sAsgG, sDrop, sRaise, sOp, sCB, sCons, sNil, sVar, sC, sTup, sNeg, sNot, sTest, sNotT, sAndT, sOrT, sAnd, sOr, sIf, sChain, sCall, ini, endOf, kName, kTup2, kTup3, oAdd, oI, oI0, oIs, oType, tyName, isNon_non, isNon_tup, isNon_int, atI_0, atI_1, atI_n, eq2_ii, ne2_ii, List.map_cons, List.map_nil, List.length_cons, List.length_nil, List.cons_append, List.nil_append, List.append_nil, List.replicate_succ, List.replicate_zero, List.getElem?_cons_zero, List.getElem?_cons_succ, List.set_cons_zero, List.set_cons_succ, Bool.false_eq_true, decide_true, decide_false, Bool.not_true, Bool.not_false, ↓reduceIte, Nat.reduceAdd, Nat.reduceSub, Nat.zero_add, Option.isSome, true_and, sAtt, sSetAtt, sMeth, sMake]
              have ef : (signsOf s).filter bad1 = (((s.cps.toList.filter fun c => !decide (c ∈ ("abcdefghijklmnopqrstuvwxyz0123456789" : Str).cps.toList)).map fun c => (⟨#[c]⟩ : Str)).map PV.str) := by
                unfold signsOf
                rw [List.filter_map, List.map_map]
                rfl
              refine ⟨by decide, ?_⟩
              rw [ef, eq_nil (get_end _ _) (fun x hx => ?_)]
              · have := hq _ (show Ext st (st ++ [Ob.lst (((s.cps.toList.filter fun c => !decide (c ∈ ("abcdefghijklmnopqrstuvwxyz0123456789" : Str).cps.toList)).map fun c => (⟨#[c]⟩ : Str)).map PV.str)]) from ⟨_, rfl⟩)
                rw [h3, Bool.true_and, ← hl] at this
                have eb :  (s.cps.toList.all fun c => decide (c ∈ letters.cps.toList) || decide (c ∈ digs.cps.toList)) = ((s.cps.toList.filter fun c => !decide (c ∈ ("abcdefghijklmnopqrstuvwxyz0123456789" : Str).cps.toList)).map fun c => (⟨#[c]⟩ : Str)).isEmpty := all_empty _
                rw [← eb]
                exact this
              · obtain ⟨cc, hcc, rfl⟩ := List.mem_map.mp hx
                have hm := (List.mem_filter.mp hcc).1
                exact sign_ok hv.2 hm
      · rw [decide_eq_false h2]
        have e2 : decide (s.length ≤ 8) = false := decide_eq_false (by omega)
        have := hq st e0
        simp only [nameB, e2, Bool.and_false, Bool.false_and] at this
        exact this
    · rw [decide_eq_false h1]
      have e1 : decide (1 ≤ s.length) = false := decide_eq_false (by omega)
      have := hq st e0
      simp only [nameB, e1, Bool.false_and] at this
      exact this
end K5
set_option Elab.async false
set_option linter.all false
set_option maxRecDepth 100000
set_option maxHeartbeats 1000000
namespace K5
open PySem PySem.Spec PyProof.Rows L2 Sm Wm Cm Kt Tm
variable {K : PySem.W.Frag} {mg : Str → Option Value}
def stT (K : PySem.W.Frag) (mg : Str → Option Value) : SemS := (sSeq (sSetIx (sOp oAdd (sOp oIx (sVar 0) (sC (.int 3))) (sC (.int 1))) (sVar 0) (sC (.int 3))) (sSeq (sIfS (sTest (sOp oEq2 (sVar 3) (sC (.str "append")))) (sSeq (sIfS (sTest (sOp (oDIn true) (sVar 4) (sVar 2))) (sSeq (sSetD (sNew (sCons (sC (.str "")) (sCons (sC (.int 0)) sNil))) (sOp oIx (sVar 0) (sC (.int 2))) (sCB oDLen (sCons (sOp oIx (sVar 0) (sC (.int 2))) sNil))) (sDrop (sApp (sOp oIx (sVar 0) (sC (.int 1))) (sCons (sTup (sCons (sC (.str "make")) (sCons (sVar 4) (sCons (sOp oSub (sCB oDLen (sCons (sOp oIx (sVar 0) (sC (.int 2))) sNil)) (sC (.int 1))) sNil)))) sNil)))) sSkip) (sSeq (sAsg (sOp oDIx (sOp oIx (sVar 0) (sC (.int 2))) (sOp oDIx (sCall (S__law_names mg) [] (sCons (sVar 0) (sCons (sCB oLen (sCons (sOp oIx (sVar 0) (sC (.int 1))) sNil)) sNil))) (sVar 4))) 6) (sSetIx (sOp oAdd (sOp oIx (sVar 6) (sC (.int 0))) (sVar 5)) (sVar 6) (sC (.int 0))))) (sIfS (sTest (sOp oEq2 (sVar 3) (sC (.str "sync")))) (sSetIx (sCB oLen (sCons (sOp oIx (sOp oDIx (sOp oIx (sVar 0) (sC (.int 2))) (sOp oDIx (sVar 2) (sVar 4))) (sC (.int 0))) sNil)) (sOp oDIx (sOp oIx (sVar 0) (sC (.int 2))) (sOp oDIx (sVar 2) (sVar 4))) (sC (.int 1))) (sIfS (sTest (sOp oEq2 (sVar 3) (sC (.str "names")))) (sParIx2 (sVar 2) (sNew sNil) (sVar 0) (sC (.int 0)) (sVar 0) (sC (.int 1))) (sDrop (sApp (sOp oIx (sVar 0) (sC (.int 1))) (sCons (sTup (sCons (sVar 3) (sCons (sVar 4) (sCons (sVar 5) sNil)))) sNil)))))) (sRet (sTup (sCons (sC (.str "told")) (sCons (sC .non) sNil))))))
def stN (K : PySem.W.Frag) (mg : Str → Option Value) : SemS := (sIfS (sAndT (sTest (sOp oEq2 (sVar 3) (sC (.str "append")))) (sNotT (sTest (sCall (S__law_is_name mg) [] (sCons (sVar 4) sNil))))) (sRet (sTup (sCons (sC (.str "name")) sNil))) sSkip)
def stU (K : PySem.W.Frag) (mg : Str → Option Value) : SemS := (sIfS (sAndT (sTest (sOp (oInT false) (sVar 3) (sTup (sCons (sC (.str "sync")) (sCons (sC (.str "remove")) (sCons (sC (.str "rename")) sNil)))))) (sTest (sOp (oDIn true) (sVar 4) (sVar 2)))) (sRet (sTup (sCons (sC (.str "unknown")) (sCons (sVar 4) sNil)))) sSkip)
def stO (K : PySem.W.Frag) (mg : Str → Option Value) : SemS := (sIfS (sAndT (sTest (sOp oEq2 (sVar 3) (sC (.str "append")))) (sNotT (sTest (sCB oIsStr (sCons (sVar 5) (sCons (sC (.ty "str")) sNil)))))) (sRet (sTup (sCons (sC (.str "operation")) sNil))) sSkip)
def stM (K : PySem.W.Frag) (mg : Str → Option Value) : SemS := (sIfS (sAndT (sTest (sOp oEq2 (sVar 3) (sC (.str "append")))) (sAndT (sTest (sOp (oDIn true) (sVar 4) (sVar 2))) (sTest (sOp oEq2 (sCB oDLen (sCons (sVar 2) sNil)) (sC (.int 8)))))) (sRet (sTup (sCons (sC (.str "many")) (sCons (sC (.int 8)) sNil)))) sSkip)
def stR (K : PySem.W.Frag) (mg : Str → Option Value) : SemS := (sIfS (sAndT (sTest (sOp oEq2 (sVar 3) (sC (.str "rename")))) (sNotT (sTest (sCall (S__law_is_name mg) [] (sCons (sVar 5) sNil))))) (sRet (sTup (sCons (sC (.str "name")) sNil))) sSkip)
def stL (K : PySem.W.Frag) (mg : Str → Option Value) : SemS := (sIfS (sAndT (sTest (sOp (oIs true) (sOp oIx (sVar 0) (sC (.int 4))) (sC .non))) (sTest (sOp oGe (sOp oIx (sVar 0) (sC (.int 3))) (sOp oIx (sVar 0) (sC (.int 4)))))) (sRet (sTup (sCons (sC (.str "lost")) (sCons (sOp oIx (sVar 0) (sC (.int 4))) sNil)))) sSkip)
def stX (K : PySem.W.Frag) (mg : Str → Option Value) : SemS := (sSetIx (sOp oAdd (sOp oIx (sVar 0) (sC (.int 3))) (sC (.int 1))) (sVar 0) (sC (.int 3)))
def stI (K : PySem.W.Frag) (mg : Str → Option Value) : SemS := (sIfS (sTest (sOp oEq2 (sVar 3) (sC (.str "append")))) (sSeq (sIfS (sTest (sOp (oDIn true) (sVar 4) (sVar 2))) (sSeq (sSetD (sNew (sCons (sC (.str "")) (sCons (sC (.int 0)) sNil))) (sOp oIx (sVar 0) (sC (.int 2))) (sCB oDLen (sCons (sOp oIx (sVar 0) (sC (.int 2))) sNil))) (sDrop (sApp (sOp oIx (sVar 0) (sC (.int 1))) (sCons (sTup (sCons (sC (.str "make")) (sCons (sVar 4) (sCons (sOp oSub (sCB oDLen (sCons (sOp oIx (sVar 0) (sC (.int 2))) sNil)) (sC (.int 1))) sNil)))) sNil)))) sSkip) (sSeq (sAsg (sOp oDIx (sOp oIx (sVar 0) (sC (.int 2))) (sOp oDIx (sCall (S__law_names mg) [] (sCons (sVar 0) (sCons (sCB oLen (sCons (sOp oIx (sVar 0) (sC (.int 1))) sNil)) sNil))) (sVar 4))) 6) (sSetIx (sOp oAdd (sOp oIx (sVar 6) (sC (.int 0))) (sVar 5)) (sVar 6) (sC (.int 0))))) (sIfS (sTest (sOp oEq2 (sVar 3) (sC (.str "sync")))) (sSetIx (sCB oLen (sCons (sOp oIx (sOp oDIx (sOp oIx (sVar 0) (sC (.int 2))) (sOp oDIx (sVar 2) (sVar 4))) (sC (.int 0))) sNil)) (sOp oDIx (sOp oIx (sVar 0) (sC (.int 2))) (sOp oDIx (sVar 2) (sVar 4))) (sC (.int 1))) (sIfS (sTest (sOp oEq2 (sVar 3) (sC (.str "names")))) (sParIx2 (sVar 2) (sNew sNil) (sVar 0) (sC (.int 0)) (sVar 0) (sC (.int 1))) (sDrop (sApp (sOp oIx (sVar 0) (sC (.int 1))) (sCons (sTup (sCons (sVar 3) (sCons (sVar 4) (sCons (sVar 5) sNil)))) sNil))))))
theorem st_go {D : EndP} {ρ : Sm.Env} {st : Store} (h : sSeq (sAsgG (sVar 1) (kTup3 3 4 5)) (sSeq (sAsg (sCall (S__law_names mg) [] (sCons (sVar 0) (sCons (sCB oLen (sCons (sOp oIx (sVar 0) (sC (.int 1))) sNil)) sNil))) 2) (sSeq (stN K mg) (sSeq (stU K mg) (sSeq (stO K mg) (sSeq (stM K mg) (sSeq (stR K mg) (sSeq (stL K mg) (stT K mg)))))))) D ρ st) : t__law_step K mg D ρ st := h
theorem stT_go {D : EndP} {ρ : Sm.Env} {st : Store} (h : sSeq (stX K mg) (sSeq (stI K mg) (sRet (sTup (sCons (sC (.str "told")) (sCons (sC .non) sNil))))) D ρ st) : stT K mg D ρ st := h
theorem lst_ne {st : Store} {a b : Nat} {x y : Ob} (h1 : st[a]? = some x) (h2 : st[b]? = some y) (h : x ≠ y) : a ≠ b := by
  intro e
  rw [e, h2] at h1
  exact h (Option.some.inj h1).symm
theorem o_ne_j {st : Store} {L : LL} {A : Dk} (R : RepL st L A) : L.o ≠ L.j := lst_ne R.o R.j (by
  intro e
  injection e with e
  cases hj : A.jr with
  | nil => rw [hj] at e; cases e
  | cons a r =>
    rw [hj] at e
    injection e with e1 e2
    cases a <;> cases e1)
theorem o_ne_h {st : Store} {L : LL} {A : Dk} {i h : Nat} (R : RepL st L A) (e : L.h[i]? = some h) : L.o ≠ h := by
  have hi := (List.getElem?_eq_some_iff.mp e).1
  rw [R.lh] at hi
  refine lst_ne R.o (R.h i h _ e (List.getElem?_eq_getElem hi)) ?_
  intro z
  injection z with z
  cases z
theorem j_ne_h {st : Store} {L : LL} {A : Dk} {i h : Nat} (R : RepL st L A) (e : L.h[i]? = some h) : L.j ≠ h := by
  have hi := (List.getElem?_eq_some_iff.mp e).1
  rw [R.lh] at hi
  refine lst_ne R.j (R.h i h _ e (List.getElem?_eq_getElem hi)) ?_
  intro z
  injection z with z
  cases hj : A.jr with
  | nil => rw [hj] at z; cases z
  | cons a r =>
    rw [hj] at z
    injection z with e1 e2
    cases a <;> cases e1
theorem RepL.tick {st : Store} {L : LL} {A : Dk} (R : RepL st L A) : RepL (st.set L.o (.lst [.dh L.n0, .hd L.j, .dh L.f, .int ((A.steps + 1 : Nat) : Int), pwP A.pow])) L A.tick where
  o := set_at R.o
  n0 := by rw [set_ne (lst_ne R.o R.n0 (by intro e; cases e))]; exact R.n0
  j := by rw [set_ne (o_ne_j R)]; exact R.j
  f := by rw [set_ne (lst_ne R.o R.f (by intro e; cases e))]; exact R.f
  lh := R.lh
  h := fun i h f e1 e2 => by rw [set_ne (o_ne_h R e1)]; exact R.h i h f e1 e2
  nh := R.nh
  ne := R.ne
theorem RepL.file {st : Store} {L : LL} {A : Dk} {i h : Nat} {f : Str × Nat} (R : RepL st L A) (e1 : L.h[i]? = some h) (e2 : A.fl[i]? = some f) (g : Str × Nat → Str × Nat) : RepL (st.set h (.lst [.str (g f).1, .int ((g f).2 : Nat)])) L { A with fl := A.fl.modify i g } where
  o := by rw [set_ne (o_ne_h R e1).symm]; exact R.o
  n0 := by rw [set_ne (lst_ne (R.h i h f e1 e2) R.n0 (by intro e; cases e))]; exact R.n0
  j := by rw [set_ne (j_ne_h R e1).symm]; exact R.j
  f := by rw [set_ne (lst_ne (R.h i h f e1 e2) R.f (by intro e; cases e))]; exact R.f
  lh := by rw [List.length_modify]; exact R.lh
  h := fun k q f' e3 e4 => by
    rw [List.getElem?_modify] at e4
    by_cases hk : i = k
    · subst hk
      rw [e1] at e3
      cases e3
      rw [e2] at e4
      simp at e4
      subst e4
      exact set_at (R.h i h f e1 e2)
    · rw [set_ne]
      · apply R.h k q f' e3
        cases e5 : A.fl[k]? with
        | none => rw [e5] at e4; cases e4
        | some u =>
          rw [e5] at e4
          simpa [hk] using e4
      · intro z
        subst z
        exact hk (nodup_get R.nh e1 e3)
  nh := R.nh
  ne := R.ne
theorem RepL.push {st : Store} {L : LL} {A : Dk} {j : Jn} (R : RepL st L A) : RepL (st.set L.j (.lst (A.jr.map Jn.enc ++ [j.enc]))) L { A with jr := A.jr ++ [j] } where
  o := by rw [set_ne (o_ne_j R).symm]; exact R.o
  n0 := by rw [set_ne (lst_ne R.j R.n0 (by intro e; cases e))]; exact R.n0
  j := by rw [set_at R.j]; simp
  f := by rw [set_ne (lst_ne R.j R.f (by intro e; cases e))]; exact R.f
  lh := R.lh
  h := fun i h f e1 e2 => by rw [set_ne (j_ne_h R e1)]; exact R.h i h f e1 e2
  nh := R.nh
  ne := R.ne
theorem fDct_app (h : List Nat) (k : Nat) : fDct (h ++ [k]) = fDct h ++ [(.inl ((h.length : Nat) : Int), .hd k)] := by
  unfold fDct
  rw [List.zipIdx_append, List.map_append]
  simp
theorem fDct_len (h : List Nat) : (fDct h).length = h.length := by simp [fDct]
theorem fDct_get0 : ∀ (h : List Nat) (k i q : Nat), h[i]? = some q → getP ((h.zipIdx k).map fun p => ((Sum.inl ((p.2 : Nat) : Int) : Key), PV.hd p.1)) (.inl ((k + i : Nat) : Int)) = some (.hd q)
  | [], k, i, q, e => by simp at e
  | a :: r, k, 0, q, e => by
    simp at e
    subst e
    unfold getP
    simp
  | a :: r, k, i + 1, q, e => by
    have ih := fDct_get0 r (k + 1) i q (by simpa using e)
    unfold getP at ih ⊢
    rw [List.zipIdx_cons, List.map_cons, List.find?_cons]
    have ne : ¬ ((Sum.inl ((k : Nat) : Int) : Key) = .inl ((k + (i + 1) : Nat) : Int)) := fun z => by
      have := Sum.inl.inj z
      omega
    simp only [decide_eq_false ne]
    rw [show k + (i + 1) = k + 1 + i by omega]
    exact ih
theorem fDct_get (h : List Nat) (i q : Nat) (e : h[i]? = some q) : getP (fDct h) (.inl (i : Int)) = some (.hd q) := by
  have := fDct_get0 h 0 i q e
  rw [Nat.zero_add] at this
  exact this
theorem fDct_new (h : List Nat) : (Sum.inl ((h.length : Nat) : Int) : Key) ∉ (fDct h).map (·.1) := by
  intro hm
  unfold fDct at hm
  rw [List.map_map] at hm
  obtain ⟨q, hq, e⟩ := List.mem_map.mp hm
  have h1 := (List.mem_zipIdx hq).2.1
  have h2 : ((q.2 : Nat) : Int) = ((h.length : Nat) : Int) := Sum.inl.inj e
  omega
/-- a new, empty file -/
theorem RepL.newf {st : Store} {L : LL} {A : Dk} (R : RepL st L A) (x : Str) : RepL ((st ++ [Ob.lst [.str x, .int 0]]).set L.f (.dct (fDct (L.h ++ [st.length])))) { L with h := L.h ++ [st.length] } { A with fl := A.fl ++ [(x, 0)] } where
  o := by rw [set_ne (lst_ne R.f R.o (by intro e; cases e)), List.getElem?_append_left (lt_of R.o)]; exact R.o
  n0 := by rw [set_ne (Ne.symm R.ne), List.getElem?_append_left (lt_of R.n0)]; exact R.n0
  j := by rw [set_ne (lst_ne R.f R.j (by intro e; cases e)), List.getElem?_append_left (lt_of R.j)]; exact R.j
  f := by
    have : (st ++ [Ob.lst [.str x, .int 0]])[L.f]? = some (.dct (fDct L.h)) := by rw [List.getElem?_append_left (lt_of R.f)]; exact R.f
    exact set_at this
  lh := by simp [R.lh]
  h := fun i q f e1 e2 => by
    by_cases hi : i < L.h.length
    · rw [List.getElem?_append_left hi] at e1
      rw [List.getElem?_append_left (by rw [← R.lh]; exact hi)] at e2
      have old := R.h i q f e1 e2
      rw [set_ne (lst_ne R.f old (by intro e; cases e)), List.getElem?_append_left (lt_of old)]
      exact old
    · rw [List.getElem?_append_right (by omega)] at e1
      rw [List.getElem?_append_right (by rw [← R.lh]; omega), ← R.lh] at e2
      have hi2 : i - L.h.length = 0 := by
        by_cases z : i - L.h.length = 0
        · exact z
        · rw [List.getElem?_eq_none (by simp; omega)] at e1
          cases e1
      rw [hi2] at e1 e2
      simp at e1 e2
      subst e1 e2
      have := lt_of R.f
      rw [set_ne (by omega)]
      simp
  nh := by
    rw [List.nodup_append]
    refine ⟨R.nh, by simp, fun a ha b hb => ?_⟩
    simp at hb
    subst hb
    intro z
    subst z
    obtain ⟨i, hi, e⟩ := List.getElem_of_mem ha
    have e1 : L.h[i]? = some st.length := by rw [List.getElem?_eq_getElem hi, e]
    have hi2 : i < A.fl.length := by rw [← R.lh]; exact hi
    have := lt_of (R.h i _ _ e1 (List.getElem?_eq_getElem hi2))
    omega
  ne := R.ne
theorem RepL.flat {st : Store} {L : LL} {A : Dk} {m : Nat} (R : RepL st L A) (hm : st[m]? = some (.dct (encT iNum A.cur))) (hn : m ≠ L.f) : RepL ((st ++ [Ob.lst []]).set L.o (.lst [.dh m, .hd st.length, .dh L.f, .int (A.steps : Nat), pwP A.pow])) { L with n0 := m, j := st.length } { A with base := A.cur, jr := [] } where
  o := by
    have : (st ++ [Ob.lst []])[L.o]? = some (.lst [.dh L.n0, .hd L.j, .dh L.f, .int (A.steps : Nat), pwP A.pow]) := by rw [List.getElem?_append_left (lt_of R.o)]; exact R.o
    exact set_at this
  n0 := by rw [set_ne (lst_ne R.o hm (by intro e; cases e)), List.getElem?_append_left (lt_of hm)]; exact hm
  j := by
    have := lt_of R.o
    rw [set_ne (show L.o ≠ st.length by omega)]
    exact get_end st _
  f := by rw [set_ne (lst_ne R.o R.f (by intro e; cases e)), List.getElem?_append_left (lt_of R.f)]; exact R.f
  lh := R.lh
  h := fun i h f e1 e2 => by
    rw [set_ne (o_ne_h R e1), List.getElem?_append_left (lt_of (R.h i h f e1 e2))]
    exact R.h i h f e1 e2
  nh := R.nh
  ne := hn
end K5
set_option Elab.async false
set_option linter.all false
set_option maxRecDepth 100000
set_option maxHeartbeats 400000
namespace K5
open PySem PySem.Spec PyProof.Rows L2 Sm Wm Cm Kt Tm
variable {K : PySem.W.Frag} {mg : Str → Option Value}
theorem ne_sync_append : decide (Str.ofString "sync" = Str.ofString "append") = false := by decide +kernel
theorem ne_names_append : decide (Str.ofString "names" = Str.ofString "append") = false := by decide +kernel
theorem ne_names_sync : decide (Str.ofString "names" = Str.ofString "sync") = false := by decide +kernel
theorem ne_remove_append : decide (Str.ofString "remove" = Str.ofString "append") = false := by decide +kernel
theorem ne_remove_sync : decide (Str.ofString "remove" = Str.ofString "sync") = false := by decide +kernel
theorem ne_remove_names : decide (Str.ofString "remove" = Str.ofString "names") = false := by decide +kernel
theorem ne_rename_append : decide (Str.ofString "rename" = Str.ofString "append") = false := by decide +kernel
theorem ne_rename_sync : decide (Str.ofString "rename" = Str.ofString "sync") = false := by decide +kernel
theorem ne_rename_names : decide (Str.ofString "rename" = Str.ofString "names") = false := by decide +kernel
def isA : Deed → Bool
  | .append => true
  | _ => false
def isR : Deed → Bool
  | .rename => true
  | _ => false
def isO : Deed → Bool
  | .append => false
  | .names => false
  | _ => true
theorem eq_A (a : Deed) : decide (a.str = Str.ofString "append") = isA a := by cases a <;> decide +kernel
theorem eq_R (a : Deed) : decide (a.str = Str.ofString "rename") = isR a := by cases a <;> decide +kernel
theorem eq_O (a : Deed) : decide (a.str ∈ [Str.ofString "sync", Str.ofString "remove", Str.ofString "rename"]) = isO a := by cases a <;> decide +kernel
section
variable {D : EndP} {o d v2 v w : PV} {v6 : Option PV} {st : Store} {a : Deed}
theorem stN_ok (hv : okV v) (h1 : isA a = true → nameB v = false → ∀ st', Ext st st' → D.rt (.tup [.str "name"]) st') (h2 : (isA a = true → nameB v = true) → ∀ st', Ext st st' → D.nx [some o, some d, some v2, some (.str a.str), some v, some w, v6] st') :
    stN K mg D [some o, some d, some v2, some (.str a.str), some v, some w, v6] st := by
  simp only [stN, sRet, sSeq, sAsg, sIfS, sSkip, sAsgG, sDrop, sRaise, sOp, sCB, sCons, sNil, sVar, sC, sTup, sNeg, sNot, sTest, sNotT, sAndT, sOrT, sAnd, sOr, sIf, sChain, sCall, ini, endOf, kName, kTup2, kTup3, oAdd, oI, oI0, oIs, oType, tyName, isNon_non, isNon_tup, isNon_int, atI_0, atI_1, atI_n, eq2_ii, ne2_ii, List.map_cons, List.map_nil, List.length_cons, List.length_nil, List.cons_append, List.nil_append, List.append_nil, List.replicate_succ, List.replicate_zero, List.getElem?_cons_zero, List.getElem?_cons_succ, List.set_cons_zero, List.set_cons_succ, Bool.false_eq_true, decide_true, decide_false, Bool.not_true, Bool.not_false, ↓reduceIte, Nat.reduceAdd, Nat.reduceSub, Nat.zero_add, Option.isSome, true_and, sAtt, sSetAtt, sMeth, sMake, eq2_ss, eq_A]
  cases hA : isA a with
  | false => exact h2 (fun z => by rw [hA] at z; cases z) st ⟨[], by simp⟩
  | true =>
    refine ⟨v, rfl, hv, fun st' he => ?_⟩
    dsimp only
    cases hb : nameB v with
    | false => exact ⟨by decide, h1 hA hb st' he⟩
    | true => exact h2 (fun _ => hb) st' he
theorem stU_ok {h : Nat} {l : DL} {k : Key} (e : st[h]? = some (.dct l)) (hk : keyP v = some k) (h1 : isO a = true → getP l k = none → D.rt (.tup [.str "unknown", v]) st) (h2 : (isO a = true → (getP l k).isSome = true) → D.nx [some o, some d, some (.dh h), some (.str a.str), some v, some w, v6] st) :
    stU K mg D [some o, some d, some (.dh h), some (.str a.str), some v, some w, v6] st := by
  simp only [stU, sRet, sSeq, sAsg, sIfS, sSkip, sAsgG, sDrop, sRaise, sOp, sCB, sCons, sNil, sVar, sC, sTup, sNeg, sNot, sTest, sNotT, sAndT, sOrT, sAnd, sOr, sIf, sChain, sCall, ini, endOf, kName, kTup2, kTup3, oAdd, oI, oI0, oIs, oType, tyName, isNon_non, isNon_tup, isNon_int, atI_0, atI_1, atI_n, eq2_ii, ne2_ii, List.map_cons, List.map_nil, List.length_cons, List.length_nil, List.cons_append, List.nil_append, List.append_nil, List.replicate_succ, List.replicate_zero, List.getElem?_cons_zero, List.getElem?_cons_succ, List.set_cons_zero, List.set_cons_succ, Bool.false_eq_true, decide_true, decide_false, Bool.not_true, Bool.not_false, ↓reduceIte, Nat.reduceAdd, Nat.reduceSub, Nat.zero_add, Option.isSome, true_and, sAtt, sSetAtt, sMeth, sMake, oInT, itemsSeq, strsP, eq_O]
  refine ⟨by decide, ?_⟩
  simp only [Option.map_some, eq_O]
  cases hO : isO a with
  | false => exact h2 (fun z => by rw [hO] at z; cases z)
  | true =>
    simp only [din_at (dct_at e) hk]
    cases hg : getP l k with
    | none => exact ⟨by decide, h1 hO hg⟩
    | some q => exact h2 (fun _ => by rw [hg]; rfl)
theorem stO_ok (hw : okV w) (h1 : isA a = true → (∀ x, w ≠ .str x) → D.rt (.tup [.str "operation"]) st) (h2 : (isA a = true → ∃ x, w = .str x) → D.nx [some o, some d, some v2, some (.str a.str), some v, some w, v6] st) :
    stO K mg D [some o, some d, some v2, some (.str a.str), some v, some w, v6] st := by
  simp only [stO, sRet, sSeq, sAsg, sIfS, sSkip, sAsgG, sDrop, sRaise, sOp, sCB, sCons, sNil, sVar, sC, sTup, sNeg, sNot, sTest, sNotT, sAndT, sOrT, sAnd, sOr, sIf, sChain, sCall, ini, endOf, kName, kTup2, kTup3, oAdd, oI, oI0, oIs, oType, tyName, isNon_non, isNon_tup, isNon_int, atI_0, atI_1, atI_n, eq2_ii, ne2_ii, List.map_cons, List.map_nil, List.length_cons, List.length_nil, List.cons_append, List.nil_append, List.append_nil, List.replicate_succ, List.replicate_zero, List.getElem?_cons_zero, List.getElem?_cons_succ, List.set_cons_zero, List.set_cons_succ, Bool.false_eq_true, decide_true, decide_false, Bool.not_true, Bool.not_false, ↓reduceIte, Nat.reduceAdd, Nat.reduceSub, Nat.zero_add, Option.isSome, true_and, sAtt, sSetAtt, sMeth, sMake, eq2_ss, eq_A]
  cases hA : isA a with
  | false => exact h2 (fun z => by rw [hA] at z; cases z)
  | true =>
    cases w <;> first | exact hw.elim | skip
    · simp only [oIsStr, true_and, Bool.not_false]
      exact ⟨by decide, h1 hA (fun x z => by cases z)⟩
    · simp only [oIsStr, true_and, Bool.not_true]
      exact h2 (fun _ => ⟨_, rfl⟩)
theorem stM_ok {h : Nat} {l : DL} {k : Key} (e : st[h]? = some (.dct l)) (hk : keyP v = some k) (h1 : isA a = true → getP l k = none → l.length = 8 → D.rt (.tup [.str "many", .int 8]) st) (h2 : (isA a = true → getP l k = none → l.length ≠ 8) → D.nx [some o, some d, some (.dh h), some (.str a.str), some v, some w, v6] st) :
    stM K mg D [some o, some d, some (.dh h), some (.str a.str), some v, some w, v6] st := by
  simp only [stM, sRet, sSeq, sAsg, sIfS, sSkip, sAsgG, sDrop, sRaise, sOp, sCB, sCons, sNil, sVar, sC, sTup, sNeg, sNot, sTest, sNotT, sAndT, sOrT, sAnd, sOr, sIf, sChain, sCall, ini, endOf, kName, kTup2, kTup3, oAdd, oI, oI0, oIs, oType, tyName, isNon_non, isNon_tup, isNon_int, atI_0, atI_1, atI_n, eq2_ii, ne2_ii, List.map_cons, List.map_nil, List.length_cons, List.length_nil, List.cons_append, List.nil_append, List.append_nil, List.replicate_succ, List.replicate_zero, List.getElem?_cons_zero, List.getElem?_cons_succ, List.set_cons_zero, List.set_cons_succ, Bool.false_eq_true, decide_true, decide_false, Bool.not_true, Bool.not_false, ↓reduceIte, Nat.reduceAdd, Nat.reduceSub, Nat.zero_add, Option.isSome, true_and, sAtt, sSetAtt, sMeth, sMake, eq2_ss, eq_A]
  cases hA : isA a with
  | false => exact h2 (fun z => by rw [hA] at z; cases z)
  | true =>
    simp only [din_at (dct_at e) hk]
    cases hg : getP l k with
    | some q => exact h2 (fun _ z => by rw [hg] at z; cases z)
    | none =>
      simp only [Option.isSome, if_true, Bool.not_false, oDLen, dct_at e, eq2_ii]
      by_cases h8 : l.length = 8
      · rw [decide_eq_true (by omega)]
        exact ⟨by decide, h1 hA hg h8⟩
      · rw [decide_eq_false (by omega)]
        exact h2 (fun _ _ => h8)
theorem stR_ok (hw : okV w) (h1 : isR a = true → nameB w = false → ∀ st', Ext st st' → D.rt (.tup [.str "name"]) st') (h2 : (isR a = true → nameB w = true) → ∀ st', Ext st st' → D.nx [some o, some d, some v2, some (.str a.str), some v, some w, v6] st') :
    stR K mg D [some o, some d, some v2, some (.str a.str), some v, some w, v6] st := by
  simp only [stR, sRet, sSeq, sAsg, sIfS, sSkip, sAsgG, sDrop, sRaise, sOp, sCB, sCons, sNil, sVar, sC, sTup, sNeg, sNot, sTest, sNotT, sAndT, sOrT, sAnd, sOr, sIf, sChain, sCall, ini, endOf, kName, kTup2, kTup3, oAdd, oI, oI0, oIs, oType, tyName, isNon_non, isNon_tup, isNon_int, atI_0, atI_1, atI_n, eq2_ii, ne2_ii, List.map_cons, List.map_nil, List.length_cons, List.length_nil, List.cons_append, List.nil_append, List.append_nil, List.replicate_succ, List.replicate_zero, List.getElem?_cons_zero, List.getElem?_cons_succ, List.set_cons_zero, List.set_cons_succ, Bool.false_eq_true, decide_true, decide_false, Bool.not_true, Bool.not_false, ↓reduceIte, Nat.reduceAdd, Nat.reduceSub, Nat.zero_add, Option.isSome, true_and, sAtt, sSetAtt, sMeth, sMake, eq2_ss, eq_R]
  cases hA : isR a with
  | false => exact h2 (fun z => by rw [hA] at z; cases z) st ⟨[], by simp⟩
  | true =>
    refine ⟨w, rfl, hw, fun st' he => ?_⟩
    dsimp only
    cases hb : nameB w with
    | false => exact ⟨by decide, h1 hA hb st' he⟩
    | true => exact h2 (fun _ => hb) st' he
end
end K5
set_option Elab.async false
set_option linter.all false
set_option maxRecDepth 100000
set_option maxHeartbeats 400000
namespace K5
open PySem PySem.Spec PyProof.Rows L2 Sm Wm Cm Kt Tm
variable {K : PySem.W.Frag} {mg : Str → Option Value}
def stIA (K : PySem.W.Frag) (mg : Str → Option Value) : SemS := (sSeq (sIfS (sTest (sOp (oDIn true) (sVar 4) (sVar 2))) (sSeq (sSetD (sNew (sCons (sC (.str "")) (sCons (sC (.int 0)) sNil))) (sOp oIx (sVar 0) (sC (.int 2))) (sCB oDLen (sCons (sOp oIx (sVar 0) (sC (.int 2))) sNil))) (sDrop (sApp (sOp oIx (sVar 0) (sC (.int 1))) (sCons (sTup (sCons (sC (.str "make")) (sCons (sVar 4) (sCons (sOp oSub (sCB oDLen (sCons (sOp oIx (sVar 0) (sC (.int 2))) sNil)) (sC (.int 1))) sNil)))) sNil)))) sSkip) (sSeq (sAsg (sOp oDIx (sOp oIx (sVar 0) (sC (.int 2))) (sOp oDIx (sCall (S__law_names mg) [] (sCons (sVar 0) (sCons (sCB oLen (sCons (sOp oIx (sVar 0) (sC (.int 1))) sNil)) sNil))) (sVar 4))) 6) (sSetIx (sOp oAdd (sOp oIx (sVar 6) (sC (.int 0))) (sVar 5)) (sVar 6) (sC (.int 0)))))
def stIS (K : PySem.W.Frag) (mg : Str → Option Value) : SemS := (sSetIx (sCB oLen (sCons (sOp oIx (sOp oDIx (sOp oIx (sVar 0) (sC (.int 2))) (sOp oDIx (sVar 2) (sVar 4))) (sC (.int 0))) sNil)) (sOp oDIx (sOp oIx (sVar 0) (sC (.int 2))) (sOp oDIx (sVar 2) (sVar 4))) (sC (.int 1)))
def stIN (K : PySem.W.Frag) (mg : Str → Option Value) : SemS := (sParIx2 (sVar 2) (sNew sNil) (sVar 0) (sC (.int 0)) (sVar 0) (sC (.int 1)))
def stIJ (K : PySem.W.Frag) (mg : Str → Option Value) : SemS := (sDrop (sApp (sOp oIx (sVar 0) (sC (.int 1))) (sCons (sTup (sCons (sVar 3) (sCons (sVar 4) (sCons (sVar 5) sNil)))) sNil)))
def stIB (K : PySem.W.Frag) (mg : Str → Option Value) : SemS := (sSeq (sSetD (sNew (sCons (sC (.str "")) (sCons (sC (.int 0)) sNil))) (sOp oIx (sVar 0) (sC (.int 2))) (sCB oDLen (sCons (sOp oIx (sVar 0) (sC (.int 2))) sNil))) (sDrop (sApp (sOp oIx (sVar 0) (sC (.int 1))) (sCons (sTup (sCons (sC (.str "make")) (sCons (sVar 4) (sCons (sOp oSub (sCB oDLen (sCons (sOp oIx (sVar 0) (sC (.int 2))) sNil)) (sC (.int 1))) sNil)))) sNil))))
def stIC (K : PySem.W.Frag) (mg : Str → Option Value) : SemS := (sSeq (sAsg (sOp oDIx (sOp oIx (sVar 0) (sC (.int 2))) (sOp oDIx (sCall (S__law_names mg) [] (sCons (sVar 0) (sCons (sCB oLen (sCons (sOp oIx (sVar 0) (sC (.int 1))) sNil)) sNil))) (sVar 4))) 6) (sSetIx (sOp oAdd (sOp oIx (sVar 6) (sC (.int 0))) (sVar 5)) (sVar 6) (sC (.int 0))))
theorem stI_go {D : EndP} {ρ : Sm.Env} {st : Store} (h : sIfS (sTest (sOp oEq2 (sVar 3) (sC (.str "append")))) (stIA K mg) (sIfS (sTest (sOp oEq2 (sVar 3) (sC (.str "sync")))) (stIS K mg) (sIfS (sTest (sOp oEq2 (sVar 3) (sC (.str "names")))) (stIN K mg) (stIJ K mg))) D ρ st) : stI K mg D ρ st := h
theorem stIA_go {D : EndP} {ρ : Sm.Env} {st : Store} (h : sSeq (sIfS (sTest (sOp (oDIn true) (sVar 4) (sVar 2))) (stIB K mg) sSkip) (stIC K mg) D ρ st) : stIA K mg D ρ st := h
section
variable {D : EndP} {d v2 v w : PV} {v3 v6 : Option PV} {st : Store} {a : Deed} {L : LL} {A : Dk}
theorem stX_ok {ρ : Sm.Env} (R : RepL st L A) (hs : A.steps ≤ 1000) (h : D.nx (some (.hd L.o) :: ρ) (st.set L.o (.lst [.dh L.n0, .hd L.j, .dh L.f, .int ((A.steps + 1 : Nat) : Int), pwP A.pow]))) : stX K mg D (some (.hd L.o) :: ρ) st := by
  simp only [stX, sSetIx, sRet, sSeq, sAsg, sIfS, sSkip, sAsgG, sDrop, sRaise, sOp, sCB, sCons, sNil, sVar, sC, sTup, sNeg, sNot, sTest, sNotT, sAndT, sOrT, sAnd, sOr, sIf, sChain, sCall, ini, endOf, kName, kTup2, kTup3, oAdd, oI, oI0, oIs, oType, tyName, isNon_non, isNon_tup, isNon_int, atI_0, atI_1, atI_n, eq2_ii, ne2_ii, List.map_cons, List.map_nil, List.length_cons, List.length_nil, List.cons_append, List.nil_append, List.append_nil, List.replicate_succ, List.replicate_zero, List.getElem?_cons_zero, List.getElem?_cons_succ, List.set_cons_zero, List.set_cons_succ, Bool.false_eq_true, decide_true, decide_false, Bool.not_true, Bool.not_false, ↓reduceIte, Nat.reduceAdd, Nat.reduceSub, Nat.zero_add, Option.isSome, true_and, sAtt, sSetAtt, sMeth, sMake, ix_at R.o (i := 3) (x := .int (A.steps : Nat)) rfl, R.o]
  exact h
theorem stIJ_ok {x : Str} {v w : PV} {j : Jn} (R : RepL st L A) (hj : A.jr.length ≤ 200) (e : j.enc = .tup [.str x, v, w]) (h : D.nx [some (.hd L.o), some d, some v2, some (.str x), some v, some w, v6] (st.set L.j (.lst (A.jr.map Jn.enc ++ [j.enc])))) :
    stIJ K mg D [some (.hd L.o), some d, some v2, some (.str x), some v, some w, v6] st := by
  simp only [stIJ, sApp, sRet, sSeq, sAsg, sIfS, sSkip, sAsgG, sDrop, sRaise, sOp, sCB, sCons, sNil, sVar, sC, sTup, sNeg, sNot, sTest, sNotT, sAndT, sOrT, sAnd, sOr, sIf, sChain, sCall, ini, endOf, kName, kTup2, kTup3, oAdd, oI, oI0, oIs, oType, tyName, isNon_non, isNon_tup, isNon_int, atI_0, atI_1, atI_n, eq2_ii, ne2_ii, List.map_cons, List.map_nil, List.length_cons, List.length_nil, List.cons_append, List.nil_append, List.append_nil, List.replicate_succ, List.replicate_zero, List.getElem?_cons_zero, List.getElem?_cons_succ, List.set_cons_zero, List.set_cons_succ, Bool.false_eq_true, decide_true, decide_false, Bool.not_true, Bool.not_false, ↓reduceIte, Nat.reduceAdd, Nat.reduceSub, Nat.zero_add, Option.isSome, true_and, sAtt, sSetAtt, sMeth, sMake, ix_at R.o (i := 1) (x := .hd L.j) rfl, R.j, List.length_map]
  rw [e] at h
  exact ⟨by decide, by omega, h⟩
theorem stIN_ok {m : Nat} (R : RepL st L A) (h : D.nx [some (.hd L.o), some d, some (.dh m), v3, some v, some w, v6] ((st ++ [Ob.lst []]).set L.o (.lst [.dh m, .hd st.length, .dh L.f, .int (A.steps : Nat), pwP A.pow]))) :
    stIN K mg D [some (.hd L.o), some d, some (.dh m), v3, some v, some w, v6] st := by
  have o2 : (st ++ [Ob.lst []])[L.o]? = some (.lst [.dh L.n0, .hd L.j, .dh L.f, .int (A.steps : Nat), pwP A.pow]) := by rw [List.getElem?_append_left (lt_of R.o)]; exact R.o
  simp only [stIN, sParIx2, kTupIx2, kIx, sNew, sRet, sSeq, sAsg, sIfS, sSkip, sAsgG, sDrop, sRaise, sOp, sCB, sCons, sNil, sVar, sC, sTup, sNeg, sNot, sTest, sNotT, sAndT, sOrT, sAnd, sOr, sIf, sChain, sCall, ini, endOf, kName, kTup2, kTup3, oAdd, oI, oI0, oIs, oType, tyName, isNon_non, isNon_tup, isNon_int, atI_0, atI_1, atI_n, eq2_ii, ne2_ii, List.map_cons, List.map_nil, List.length_cons, List.length_nil, List.cons_append, List.nil_append, List.append_nil, List.replicate_succ, List.replicate_zero, List.getElem?_cons_zero, List.getElem?_cons_succ, List.set_cons_zero, List.set_cons_succ, Bool.false_eq_true, decide_true, decide_false, Bool.not_true, Bool.not_false, ↓reduceIte, Nat.reduceAdd, Nat.reduceSub, Nat.zero_add, Option.isSome, true_and, sAtt, sSetAtt, sMeth, sMake, o2]
  refine ⟨by decide, by decide, ?_⟩
  rw [show ixN 5 0 = some 0 from rfl]
  simp only [List.set_cons_zero, set_at o2, sRet, sSeq, sAsg, sIfS, sSkip, sAsgG, sDrop, sRaise, sOp, sCB, sCons, sNil, sVar, sC, sTup, sNeg, sNot, sTest, sNotT, sAndT, sOrT, sAnd, sOr, sIf, sChain, sCall, ini, endOf, kName, kTup2, kTup3, oAdd, oI, oI0, oIs, oType, tyName, isNon_non, isNon_tup, isNon_int, atI_0, atI_1, atI_n, eq2_ii, ne2_ii, List.map_cons, List.map_nil, List.length_cons, List.length_nil, List.cons_append, List.nil_append, List.append_nil, List.replicate_succ, List.replicate_zero, List.getElem?_cons_zero, List.getElem?_cons_succ, List.set_cons_zero, List.set_cons_succ, Bool.false_eq_true, decide_true, decide_false, Bool.not_true, Bool.not_false, ↓reduceIte, Nat.reduceAdd, Nat.reduceSub, Nat.zero_add, Option.isSome, true_and, sAtt, sSetAtt, sMeth, sMake]
  rw [show ixN 5 1 = some 1 from rfl]
  simp only [List.set_cons_zero, List.set_cons_succ, List.set_set]
  exact h
theorem stIS_ok {m i h : Nat} {k : Key} {f : Str × Nat} (R : RepL st L A) (e : st[m]? = some (.dct (encT iNum A.cur))) (hk : keyP v = some k) (hg : getP (encT iNum A.cur) k = some (iNum i)) (e1 : L.h[i]? = some h) (e2 : A.fl[i]? = some f) (hf : f.1.length ≤ 10000)
    (hq : D.nx [some (.hd L.o), some d, some (.dh m), v3, some v, some w, v6] (st.set h (.lst [.str f.1, .int (f.1.length : Nat)]))) :
    stIS K mg D [some (.hd L.o), some d, some (.dh m), v3, some v, some w, v6] st := by
  have hh := R.h i h f e1 e2
  simp only [stIS, sSetIx, sRet, sSeq, sAsg, sIfS, sSkip, sAsgG, sDrop, sRaise, sOp, sCB, sCons, sNil, sVar, sC, sTup, sNeg, sNot, sTest, sNotT, sAndT, sOrT, sAnd, sOr, sIf, sChain, sCall, ini, endOf, kName, kTup2, kTup3, oAdd, oI, oI0, oIs, oType, tyName, isNon_non, isNon_tup, isNon_int, atI_0, atI_1, atI_n, eq2_ii, ne2_ii, List.map_cons, List.map_nil, List.length_cons, List.length_nil, List.cons_append, List.nil_append, List.append_nil, List.replicate_succ, List.replicate_zero, List.getElem?_cons_zero, List.getElem?_cons_succ, List.set_cons_zero, List.set_cons_succ, Bool.false_eq_true, decide_true, decide_false, Bool.not_true, Bool.not_false, ↓reduceIte, Nat.reduceAdd, Nat.reduceSub, Nat.zero_add, Option.isSome, true_and, sAtt, sSetAtt, sMeth, sMake, ix_at R.o (i := 2) (x := .dh L.f) rfl, dix_at (dct_at e) hk hg, dix_at (dct_at R.f) (v := iNum i) (k := .inl (i : Nat)) rfl (fDct_get _ _ _ e1), ix_at hh (i := 0) (x := .str f.1) rfl, oLen, hh]
  exact ⟨by omega, hq⟩
theorem stIC_ok {n i h : Nat} {k : Key} {f : Str × Nat} {x : Str} (R : RepL st L A) (W : WF n A) (hk : keyP v = some k) (hg : getP (encT iNum A.cur) k = some (iNum i)) (e1 : L.h[i]? = some h) (e2 : A.fl[i]? = some f) (hf : f.1.length ≤ 10000) (hx : x.length ≤ 100)
    (hq : ∀ q, D.nx [some (.hd L.o), some d, some v2, v3, some v, some (.str x), q] ((st ++ [Ob.dct (encT iNum A.cur)]).set h (.lst [.str (f.1 ++ x), .int (f.2 : Nat)]))) :
    stIC K mg D [some (.hd L.o), some d, some v2, v3, some v, some (.str x), v6] st := by
  have hh := R.h i h f e1 e2
  simp only [stIC, sSetIx, sRet, sSeq, sAsg, sIfS, sSkip, sAsgG, sDrop, sRaise, sOp, sCB, sCons, sNil, sVar, sC, sTup, sNeg, sNot, sTest, sNotT, sAndT, sOrT, sAnd, sOr, sIf, sChain, sCall, ini, endOf, kName, kTup2, kTup3, oAdd, oI, oI0, oIs, oType, tyName, isNon_non, isNon_tup, isNon_int, atI_0, atI_1, atI_n, eq2_ii, ne2_ii, List.map_cons, List.map_nil, List.length_cons, List.length_nil, List.cons_append, List.nil_append, List.append_nil, List.replicate_succ, List.replicate_zero, List.getElem?_cons_zero, List.getElem?_cons_succ, List.set_cons_zero, List.set_cons_succ, Bool.false_eq_true, decide_true, decide_false, Bool.not_true, Bool.not_false, ↓reduceIte, Nat.reduceAdd, Nat.reduceSub, Nat.zero_add, Option.isSome, true_and, sAtt, sSetAtt, sMeth, sMake, ix_at R.o (i := 2) (x := .dh L.f) rfl, ix_at R.o (i := 1) (x := .hd L.j) rfl, oLen, R.j, List.length_map]
  refine ⟨L, A, n, A.jr.length, rfl, R, W, Nat.le_refl _, ?_⟩
  rw [List.take_length]
  have hd2 : dctAt (st ++ [Ob.dct (encT iNum (runT A.base A.jr))]) (.dh st.length) = some (encT iNum A.cur) := dct_at (get_end st _)
  have hf2 : (st ++ [Ob.dct (encT iNum (runT A.base A.jr))])[L.f]? = some (.dct (fDct L.h)) := by rw [List.getElem?_append_left (lt_of R.f)]; exact R.f
  have hh2 : (st ++ [Ob.dct (encT iNum (runT A.base A.jr))])[h]? = some (.lst [.str f.1, .int (f.2 : Nat)]) := by rw [List.getElem?_append_left (lt_of hh)]; exact hh
  simp only [dix_at hd2 hk hg, dix_at (dct_at hf2) (v := iNum i) (k := .inl (i : Nat)) rfl (fDct_get _ _ _ e1), ix_at hh2 (i := 0) (x := .str f.1) rfl, hh2]
  refine ⟨by have z : 20000 ≤ sizeLine := by decide
             omega, ?_⟩
  exact hq _
theorem stIB_ok {m : Nat} {y : Str} (R : RepL st L A) (hj : A.jr.length ≤ 200) (hl : A.fl.length ≤ 200)
    (hq : D.nx [some (.hd L.o), some d, some (.dh m), v3, some (.str y), some w, v6] (((st ++ [Ob.lst [.str "", .int 0]]).set L.f (.dct (fDct (L.h ++ [st.length])))).set L.j (.lst (A.jr.map Jn.enc ++ [(Jn.make y A.fl.length).enc])))) :
    stIB K mg D [some (.hd L.o), some d, some (.dh m), v3, some (.str y), some w, v6] st := by
  have R2 := R.newf ""
  have o2 : (st ++ [Ob.lst [.str "", .int 0]])[L.o]? = some (.lst [.dh L.n0, .hd L.j, .dh L.f, .int (A.steps : Nat), pwP A.pow]) := by rw [List.getElem?_append_left (lt_of R.o)]; exact R.o
  have f2 : (st ++ [Ob.lst [.str "", .int 0]])[L.f]? = some (.dct (fDct L.h)) := by rw [List.getElem?_append_left (lt_of R.f)]; exact R.f
  simp only [stIB, sSetD, sNew, sApp, sRet, sSeq, sAsg, sIfS, sSkip, sAsgG, sDrop, sRaise, sOp, sCB, sCons, sNil, sVar, sC, sTup, sNeg, sNot, sTest, sNotT, sAndT, sOrT, sAnd, sOr, sIf, sChain, sCall, ini, endOf, kName, kTup2, kTup3, oAdd, oI, oI0, oIs, oType, tyName, isNon_non, isNon_tup, isNon_int, atI_0, atI_1, atI_n, eq2_ii, ne2_ii, List.map_cons, List.map_nil, List.length_cons, List.length_nil, List.cons_append, List.nil_append, List.append_nil, List.replicate_succ, List.replicate_zero, List.getElem?_cons_zero, List.getElem?_cons_succ, List.set_cons_zero, List.set_cons_succ, Bool.false_eq_true, decide_true, decide_false, Bool.not_true, Bool.not_false, ↓reduceIte, Nat.reduceAdd, Nat.reduceSub, Nat.zero_add, Option.isSome, true_and, sAtt, sSetAtt, sMeth, sMake, ix_at o2 (i := 2) (x := .dh L.f) rfl, oDLen, dct_at f2, fDct_len, keyP, f2]
  rw [putP_new (fDct_new L.h), ← fDct_app]
  have hl2 : L.h.length ≤ 200 := by rw [R.lh]; exact hl
  simp only [ix_at R2.o (i := 1) (x := .hd L.j) rfl, ix_at R2.o (i := 2) (x := .dh L.f) rfl, dct_at R2.f, R2.j, List.length_map, fDct_len, List.length_append, List.length_cons, List.length_nil]
  have e : (((L.h.length + (0 + 1) : Nat) : Int) - 1) = ((A.fl.length : Nat) : Int) := by rw [← R.lh]; omega
  refine ⟨by decide, by omega, by decide, by omega, ?_⟩
  rw [e]
  exact hq
end
end K5
set_option Elab.async false
set_option linter.all false
set_option maxRecDepth 100000
set_option maxHeartbeats 400000
namespace K5
open PySem PySem.Spec PyProof.Rows L2 Sm Wm Cm Kt Tm
theorem okT.mono {T : Tb} {m m' : Nat} (h : okT T m) (hm : m ≤ m') : okT T m' := ⟨h.1, h.2.1, fun p hp => ⟨Nat.lt_of_lt_of_le (h.2.2 p hp).1 hm, (h.2.2 p hp).2⟩⟩
theorem okJ.mono {m m' : Nat} (hm : m ≤ m') : ∀ {l : List Jn} {T : Tb}, okJ m T l → okJ m' T l
  | [], T, h => okT.mono h hm
  | j :: r, T, h => ⟨h.1.mono hm, h.2.1, okJ.mono hm h.2.2⟩
def canJ (T : Tb) : Jn → Prop
  | .make n _ => getT T n = none
  | .remove n _ => (getT T n).isSome = true
  | .rename o _ => (getT T o).isSome = true
theorem okJ_snoc {m : Nat} {j : Jn} : ∀ {l : List Jn} {T : Tb}, okJ m T l → canJ (runT T l) j → okT (app (runT T l) j) m → okJ m T (l ++ [j])
  | [], T, h, hc, ht => ⟨h, by cases j <;> exact hc, ht⟩
  | a :: r, T, h, hc, ht => ⟨h.1, h.2.1, okJ_snoc (l := r) h.2.2 hc ht⟩
theorem okT_put {T : Tb} {m i : Nat} {y : Str} (h : okT T m) (hi : i < m) (hy : okN y) (hl : T.length < 8) : okT (putT T y i) m := by
  unfold putT
  split
  · refine ⟨?_, by rw [List.length_map]; omega, fun p hp => ?_⟩
    · have e : (T.map fun p => if p.1 = y then (p.1, i) else p).map (·.1) = T.map (·.1) := by
        rw [List.map_map]
        refine List.map_congr_left fun p _ => ?_
        simp only [Function.comp]
        split <;> rfl
      rw [e]
      exact h.1
    · obtain ⟨q, hq, rfl⟩ := List.mem_map.mp hp
      split
      · exact ⟨hi, (h.2.2 q hq).2⟩
      · exact h.2.2 q hq
  · rename_i hn
    refine ⟨?_, by simp; omega, fun p hp => ?_⟩
    · rw [List.map_append, List.nodup_append]
      refine ⟨h.1, by simp, fun a ha b hb => ?_⟩
      simp at hb
      subst hb
      intro z
      subst z
      obtain ⟨p, hp, e⟩ := List.mem_map.mp ha
      exact hn (List.any_eq_true.mpr ⟨p, hp, decide_eq_true e⟩)
    · rcases List.mem_append.mp hp with hp | hp
      · exact h.2.2 p hp
      · simp at hp
        subst hp
        exact ⟨hi, hy⟩
theorem okT_drop {T : Tb} {m : Nat} {y : Str} (h : okT T m) : okT (dropT T y) m := by
  unfold dropT
  refine ⟨?_, Nat.le_trans (List.length_filter_le _ _) h.2.1, fun p hp => h.2.2 p (List.mem_filter.mp hp).1⟩
  exact List.Nodup.sublist (List.Sublist.map _ List.filter_sublist) h.1
theorem drop_lt {T : Tb} {y : Str} {i : Nat} (h : getT T y = some i) : (dropT T y).length < T.length := by
  have hm := getT_some h
  unfold dropT
  rcases Nat.lt_or_ge (T.filter fun p => decide (p.1 ≠ y)).length T.length with z | z
  · exact z
  · have e := List.length_filter_eq_length_iff.mp (Nat.le_antisymm (List.length_filter_le _ _) z) _ hm
    simp at e
theorem WF.make {n : Nat} {A : Dk} {y x : Str} (W : WF n A) (h1 : n + 1 ≤ 101) (hf : getT A.cur y = none) (h8 : A.cur.length ≠ 8) (hy : okN y) (hx : x.length ≤ 20) (hp : A.pow ≠ some A.steps) : WF (n + 1) { A with jr := A.jr ++ [.make y A.fl.length], fl := A.fl ++ [(x, 0)], steps := A.steps + 1 } where
  le := h1
  okj := by
    have hok := okJ_run _ _ W.okj
    show okJ (A.fl ++ [(x, 0)]).length A.base (A.jr ++ [.make y A.fl.length])
    rw [List.length_append]
    refine okJ_snoc (okJ.mono (Nat.le_add_right _ _) W.okj) hf ?_
    have hl : A.cur.length ≤ 8 := hok.2.1
    exact okT_put (hok.mono (Nat.le_add_right _ _)) (by simp) hy (by have : (runT A.base A.jr).length ≠ 8 := h8; have : (runT A.base A.jr).length ≤ 8 := hl; omega)
  jl := by have := W.jl; simp; omega
  fll := by have := W.fll; simp; omega
  sl := by have := W.sl; show A.steps + 1 ≤ n + 1; omega
  pw := (W.tick h1 hp).pw
  fb := fun f hf => by
    rcases List.mem_append.mp hf with hf | hf
    · have := W.fb f hf; exact ⟨this.1, by omega⟩
    · simp at hf
      subst hf
      exact ⟨Nat.zero_le _, by show x.length ≤ _; omega⟩
theorem WF.jrn {n : Nat} {A : Dk} {j : Jn} (W : WF n A) (h1 : n + 1 ≤ 101) (hc : canJ A.cur j) (ht : okT (app A.cur j) A.fl.length) (hp : A.pow ≠ some A.steps) : WF (n + 1) { A with jr := A.jr ++ [j], steps := A.steps + 1 } where
  le := h1
  okj := okJ_snoc W.okj hc ht
  jl := by have := W.jl; simp; omega
  fll := by have := W.fll; show A.fl.length ≤ n + 1 + 8; omega
  sl := by have := W.sl; show A.steps + 1 ≤ n + 1; omega
  pw := (W.tick h1 hp).pw
  fb := (W.tick h1 hp).fb
theorem len_app2 (a b : Str) : (a ++ b).length = a.length + b.length := by
  show (a.cps ++ b.cps).size = _
  simp [Str.length]
theorem WF.step {n : Nat} {A A' : Dk} {v w : PV} {a : Deed} (W : WF n A) (hn : n ≤ 100) (hv : okV v) (hw : okV w) (hs : K5.step A v w a = .inr A') : WF (n + 1) A' := by
  have hok := okJ_run _ _ W.okj
  by_cases hp : A.pow = some A.steps
  · exfalso
    cases a <;> simp only [K5.step, opAppend, opSync, opNames, opRemove, opRename, out_of hp, if_true] at hs <;> (repeat' split at hs) <;> cases hs
  have W1 := W.tick (by omega) hp
  cases a with
  | append =>
    simp only [K5.step, opAppend, out_not hp, Bool.false_eq_true, if_false] at hs
    split at hs
    · cases hs
    · split at hs
      · split at hs
        · split at hs
          · cases hs
          · rename_i x hfn h8
            cases hs
            cases v <;> first | exact hv.elim | skip
            · exact absurd rfl (by assumption)
            · exact W.make (by omega) hfn h8 hv hw.1 hp
        · cases hs
          refine ⟨W1.le, ?_, W1.jl, ?_, W1.sl, W1.pw, fun f hf => ?_⟩
          · rw [List.length_modify]; exact W.okj
          · rw [List.length_modify]; exact W1.fll
          · obtain ⟨k, hk, e⟩ := List.getElem_of_mem hf
            rw [List.getElem_modify] at e
            have hk2 : k < A.fl.length := by rw [List.length_modify] at hk; exact hk
            have hb := W.fb _ (List.getElem_mem hk2)
            have hx := hw.1
            split at e
            · subst e
              simp only [len_app2]
              exact ⟨by omega, by omega⟩
            · subst e
              exact ⟨hb.1, by omega⟩
      · cases hs
  | sync =>
    simp only [K5.step, opSync, out_not hp, Bool.false_eq_true, if_false] at hs
    split at hs
    · cases hs
    · cases hs
      refine ⟨W1.le, ?_, W1.jl, ?_, W1.sl, W1.pw, fun f hf => ?_⟩
      · rw [List.length_modify]; exact W.okj
      · rw [List.length_modify]; exact W1.fll
      · obtain ⟨k, hk, e⟩ := List.getElem_of_mem hf
        rw [List.getElem_modify] at e
        have hk2 : k < A.fl.length := by rw [List.length_modify] at hk; exact hk
        have hb := W.fb _ (List.getElem_mem hk2)
        split at e
        · subst e
          exact ⟨Nat.le_refl _, by show (A.fl[k]).1.length ≤ _; omega⟩
        · subst e
          exact ⟨hb.1, by omega⟩
  | names =>
    simp only [K5.step, opNames, out_not hp, Bool.false_eq_true, if_false] at hs
    cases hs
    exact ⟨W1.le, hok, Nat.zero_le _, W1.fll, W1.sl, W1.pw, W1.fb⟩
  | remove =>
    simp only [K5.step, opRemove, out_not hp, Bool.false_eq_true, if_false] at hs
    split at hs
    · cases hs
    · rename_i i hfs
      cases hs
      obtain ⟨x, rfl, hx⟩ := find_txt hfs
      exact W.jrn (by omega) (by show (getT A.cur x).isSome = true; rw [hx]; rfl) (okT_drop hok) hp
  | rename =>
    simp only [K5.step, opRename, out_not hp, Bool.false_eq_true, if_false] at hs
    split at hs
    · cases hs
    · rename_i i hfs
      split at hs
      · cases hs
      · rename_i hb
        cases hs
        obtain ⟨x, rfl, hx⟩ := find_txt hfs
        cases w <;> first | exact hw.elim | skip
        · exact absurd rfl hb
        · rename_i y
          refine W.jrn (by omega) (by show (getT A.cur x).isSome = true; rw [hx]; rfl) ?_ hp
          show okT (match getT A.cur x with | some i => putT (dropT A.cur x) y i | none => A.cur) A.fl.length
          rw [hx]
          have hl := drop_lt hx
          have h8 : A.cur.length ≤ 8 := hok.2.1
          exact okT_put (okT_drop hok) ((hok.2.2 _ (getT_some hx)).1) hw (by omega)
theorem lostF_len (A : Dk) (T : Tb) (c : List Nat) : ∀ (ys : List Str) (k : Nat), (lostF A T c k ys).length = ys.length
  | [], _ => rfl
  | y :: r, k => by simp [lostF, lostF_len A T c r]
theorem zip_keys : ∀ (ys : List Str) (k : Nat), (ys.zipIdx k).map (·.1) = ys
  | [], _ => rfl
  | y :: r, k => by simp [List.zipIdx_cons, zip_keys r]
theorem WF.lost {n : Nat} {A : Dk} {c : List Nat} {pw : Option Nat} {ys : List Str} (W : WF n A) (hn : n ≤ 100) (hpw : ∀ k, pw = some k → k ≤ 1000000) (hperm : ys.Perm ((runT A.base (A.jr.take (pick c 0 (A.jr.length + 1)))).map (·.1))) : WF (n + 1) (opLost A c pw ys) := by
  have ok := okJ_take _ _ W.okj (pick c 0 (A.jr.length + 1))
  have hl : ys.length ≤ 8 := by rw [hperm.length_eq, List.length_map]; exact ok.2.1
  refine ⟨by omega, ?_, Nat.zero_le _, ?_, Nat.zero_le _, fun p hp => ⟨Nat.zero_le _, hpw p hp⟩, fun f hf => ?_⟩
  · show okT ys.zipIdx (lostF A _ c 0 ys).length
    rw [lostF_len]
    refine ⟨by rw [zip_keys]; exact hperm.nodup_iff.mpr ok.1, by simpa using hl, fun p hp => ?_⟩
    have hm := List.mem_zipIdx hp
    refine ⟨by have := hm.2.1; omega, ?_⟩
    have hy : p.1 ∈ ys := hm.2.2 ▸ List.getElem_mem _
    obtain ⟨q, hq, e⟩ := List.mem_map.mp (hperm.mem_iff.mp hy)
    rw [← e]
    exact (ok.2.2 q hq).2
  · show (lostF A _ c 0 ys).length ≤ n + 1 + 8
    rw [lostF_len]
    omega
  · have hf' : f ∈ lostF A (runT A.base (A.jr.take (pick c 0 (A.jr.length + 1)))) c 0 ys := hf
    rw [← cuts_fl] at hf'
    obtain ⟨q, hq, rfl⟩ := List.mem_map.mp hf'
    have := cuts_mem A _ c W ys 0 q hq
    exact ⟨Nat.le_refl _, by show q.2.length ≤ _; omega⟩
end K5
set_option Elab.async false
set_option linter.all false
set_option maxRecDepth 100000
set_option maxHeartbeats 400000
namespace K5
open PySem PySem.Spec PyProof.Rows L2 Sm Wm Cm Kt Tm
variable {K : PySem.W.Frag} {mg : Str → Option Value}
theorem get_none {g : Nat → PV} {A : Dk} {v : PV} {k : Key} (hg : getP (encT g A.cur) k = (find A v).map g) : getP (encT g A.cur) k = none ↔ find A v = none := by
  rw [hg, Option.map_eq_none_iff]
theorem RepL.at {st : Store} {L : LL} {A : Dk} {i : Nat} (R : RepL st L A) (hi : i < A.fl.length) : ∃ h f, L.h[i]? = some h ∧ A.fl[i]? = some f := by
  have hh : i < L.h.length := by rw [R.lh]; exact hi
  exact ⟨_, _, List.getElem?_eq_getElem hh, List.getElem?_eq_getElem hi⟩
theorem mem_o (L : LL) : L.o ∈ L.hs := by simp [LL.hs]
theorem mem_j (L : LL) : L.j ∈ L.hs := by simp [LL.hs]
theorem mem_f (L : LL) : L.f ∈ L.hs := by simp [LL.hs]
theorem mem_h {L : LL} {i h : Nat} (e : L.h[i]? = some h) : h ∈ L.hs := by
  simp only [LL.hs, List.mem_cons]
  exact .inr (.inr (.inr (.inr (List.mem_of_getElem? e))))
theorem getT_new {T : Tb} {y : Str} {i : Nat} (h : getT T y = none) : getT (putT T y i) y = some i := by
  rw [putT_none h]
  have hn := getT_none.mp h
  unfold getT
  rw [List.find?_append, List.find?_eq_none.mpr (fun p hp e => hn (List.mem_map.mpr ⟨p, hp, of_decide_eq_true e⟩))]
  simp
theorem modify_last {α : Type} (l : List α) (a : α) (g : α → α) : (l ++ [a]).modify l.length g = l ++ [g a] := by
  induction l with
  | nil => rfl
  | cons x r ih => simpa using ih
theorem e_app (x : Str) : (Str.ofString "" ++ x) = x := empty_app x
/-- what happens once power is left -/
theorem tail_ok {st S : Store} {L : LL} {A : Dk} {n m : Nat} {d v w : PV} {a : Deed} {A' : Dk} {D : EndP} (R : RepL S L A) (W : WF n A) (hn1 : n ≤ 100) (hv : okV v) (hw : okV w) (kp : Kp [] st S) (hm : S[m]? = some (.dct (encT iNum A.cur))) (hmf : m ≠ L.f) (hms : st.length ≤ m) (hp : A.pow ≠ some A.steps)
    (hs : step A v w a = .inr A') (hq : ∀ (L' : LL) st', RepL st' L' A' → L'.o = L.o → Near L.hs L'.hs st → Kp L.hs st st' → D.rt toldE st') :
    stT K mg D [some (.hd L.o), some d, some (.dh m), some (.str a.str), some v, some w, none] S := by
  have hn := W.le
  have hsl := W.sl
  apply stT_go
  refine stX_ok R (by omega) ?_
  have R1 := R.tick
  have kp1 : Kp L.hs st (S.set L.o (.lst [.dh L.n0, .hd L.j, .dh L.f, .int ((A.steps + 1 : Nat) : Int), pwP A.pow])) := (kp.mono (N := L.hs) (fun _ h => by cases h)).trans (Kp.set (mem_o L)) fun i hi _ => hi
  have hm1 : (S.set L.o (.lst [.dh L.n0, .hd L.j, .dh L.f, .int ((A.steps + 1 : Nat) : Int), pwP A.pow]))[m]? = some (.dct (encT iNum A.cur)) := by
    rw [set_ne (lst_ne R.o hm (by intro e; cases e))]
    exact hm
  generalize S.set L.o (.lst [.dh L.n0, .hd L.j, .dh L.f, .int ((A.steps + 1 : Nat) : Int), pwP A.pow]) = S1 at R1 kp1 hm1
  have W1 := W.tick (by omega) hp
  have told : ∀ ρ st', D.rt toldE st' → sRet (sTup (sCons (sC (.str "told")) (sCons (sC .non) sNil))) D ρ st' := fun ρ st' h => ⟨by decide, h⟩
  obtain ⟨k, hk, hg⟩ := find_enc iNum A hv
  show stI K mg { D with nx := sRet (sTup (sCons (sC (.str "told")) (sCons (sC .non) sNil))) D } [some (.hd L.o), some d, some (.dh m), some (.str a.str), some v, some w, none] S1
  apply stI_go
  cases a with
  | append =>
    simp only [step, opAppend, out_not hp, Bool.false_eq_true, if_false] at hs
    cases v <;> first | exact hv.elim | skip
    · cases hs
    rename_i y
    have hb : nameB (.str y) = true := by
      cases hb : nameB (.str y) with
      | true => rfl
      | false => rw [hb] at hs; simp at hs
    simp only [hb, Bool.true_eq_false, if_false] at hs
    cases w <;> first | exact hw.elim | skip
    · cases hs
    rename_i x
    have hx : x.length ≤ 20 := hw.1
    have hk' : k = .inr y := by cases hk; rfl
    subst hk'
    have hj := W.jl
    have hfl := W.fll
    simp only [sIfS, Deed.str, sRet, sSeq, sAsg, sIfS, sSkip, sAsgG, sDrop, sRaise, sOp, sCB, sCons, sNil, sVar, sC, sTup, sNeg, sNot, sTest, sNotT, sAndT, sOrT, sAnd, sOr, sIf, sChain, sCall, ini, endOf, kName, kTup2, kTup3, oAdd, oI, oI0, oIs, oType, tyName, isNon_non, isNon_tup, isNon_int, atI_0, atI_1, atI_n, eq2_ii, ne2_ii, List.map_cons, List.map_nil, List.length_cons, List.length_nil, List.cons_append, List.nil_append, List.append_nil, List.replicate_succ, List.replicate_zero, List.getElem?_cons_zero, List.getElem?_cons_succ, List.set_cons_zero, List.set_cons_succ, Bool.false_eq_true, decide_true, decide_false, Bool.not_true, Bool.not_false, ↓reduceIte, Nat.reduceAdd, Nat.reduceSub, Nat.zero_add, Option.isSome, true_and, sAtt, sSetAtt, sMeth, sMake, eq2_ss]
    apply stIA_go
    simp only [sSeq, sIfS, sRet, sSeq, sAsg, sIfS, sSkip, sAsgG, sDrop, sRaise, sOp, sCB, sCons, sNil, sVar, sC, sTup, sNeg, sNot, sTest, sNotT, sAndT, sOrT, sAnd, sOr, sIf, sChain, sCall, ini, endOf, kName, kTup2, kTup3, oAdd, oI, oI0, oIs, oType, tyName, isNon_non, isNon_tup, isNon_int, atI_0, atI_1, atI_n, eq2_ii, ne2_ii, List.map_cons, List.map_nil, List.length_cons, List.length_nil, List.cons_append, List.nil_append, List.append_nil, List.replicate_succ, List.replicate_zero, List.getElem?_cons_zero, List.getElem?_cons_succ, List.set_cons_zero, List.set_cons_succ, Bool.false_eq_true, decide_true, decide_false, Bool.not_true, Bool.not_false, ↓reduceIte, Nat.reduceAdd, Nat.reduceSub, Nat.zero_add, Option.isSome, true_and, sAtt, sSetAtt, sMeth, sMake, din_at (dct_at hm1) hk]
    cases hf : find A (.str y) with
    | none =>
      rw [hf] at hs hg
      dsimp only at hs
      split at hs
      · cases hs
      · rename_i h8
        cases hs
        simp only [hg, Option.map_none, Option.isSome, if_true, Bool.not_false]
        refine stIB_ok (A := A.tick) R1 (by show A.jr.length ≤ 200; omega) (by show A.fl.length ≤ 200; omega) ?_
        have R2 := (R1.newf "").push (j := .make y A.fl.length)
        have W2 : WF (n + 1) { A with jr := A.jr ++ [.make y A.fl.length], fl := A.fl ++ [(("" : Str), 0)], steps := A.steps + 1 } := W.make (by omega) hf h8 hv (Nat.zero_le _) hp
        have hcur : ({ A with jr := A.jr ++ [.make y A.fl.length], fl := A.fl ++ [(("" : Str), 0)], steps := A.steps + 1 } : Dk).cur = putT A.cur y A.fl.length := by
          show runT A.base (A.jr ++ [.make y A.fl.length]) = _
          unfold runT
          rw [List.foldl_append]
          rfl
        have hg2 : getP (encT iNum ({ A with jr := A.jr ++ [.make y A.fl.length], fl := A.fl ++ [(("" : Str), 0)], steps := A.steps + 1 } : Dk).cur) (.inr y) = some (iNum A.fl.length) := by
          rw [hcur, getT_enc, getT_new hf]
          rfl
        have f1 : (L.h ++ [S1.length])[A.fl.length]? = some S1.length := by
          have e : A.fl.length = L.h.length := R1.lh.symm
          rw [e]
          simp
        have f2 : (A.fl ++ [(("" : Str), 0)])[A.fl.length]? = some (("" : Str), 0) := by simp
        refine stIC_ok (K := K) (L := { L with h := L.h ++ [S1.length] }) (n := n + 1) (k := .inr y) (i := A.fl.length) (f := (("" : Str), 0)) R2 W2 rfl hg2 f1 f2 (Nat.zero_le _) (by omega) (fun q => ?_)
        have R3 := (R2.keep (M := []) (b := _ ++ [Ob.dct (encT iNum ({ A with jr := A.jr ++ [.make y A.fl.length], fl := A.fl ++ [(("" : Str), 0)], steps := A.steps + 1 } : Dk).cur)]) Kp.ext (fun _ _ h => by cases h)).file f1 f2 (fun f => (f.1 ++ x, f.2))
        have em : (A.fl ++ [(("" : Str), 0)]).modify A.fl.length (fun f => (f.1 ++ x, f.2)) = A.fl ++ [(x, 0)] := by
          rw [modify_last]
          show A.fl ++ [((("" : Str) ++ x), 0)] = _
          rw [show (("" : Str) ++ x) = x from e_app x]
        dsimp only [Dk.tick] at R3
        rw [em] at R3
        refine told [] _ (hq _ _ R3 rfl (fun i hi => ?_) ?_)
        · simp only [LL.hs, List.mem_cons, List.mem_append, List.not_mem_nil, or_false] at hi ⊢
          have := kp1.1
          rcases hi with hi | hi | hi | hi | hi | hi
          · exact .inl (.inl hi)
          · exact .inl (.inr (.inl hi))
          · exact .inl (.inr (.inr (.inl hi)))
          · exact .inl (.inr (.inr (.inr (.inl hi))))
          · exact .inl (.inr (.inr (.inr (.inr hi))))
          · exact .inr (by omega)
        · refine ((((kp1.trans Kp.ext fun i hi _ => hi).trans (Kp.set (mem_f L)) fun i hi _ => hi).trans (Kp.set (mem_j L)) fun i hi _ => hi).trans Kp.ext fun i hi _ => hi).trans (Kp.set (M := [S1.length]) (by simp)) (fun i hi hlt => ?_)
          have := kp1.1
          simp at hi
          omega
    | some i =>
      rw [hf] at hs hg
      dsimp only at hs
      cases hs
      have hi : i < A.fl.length := find_lt W hf
      obtain ⟨h, f, f1, f2⟩ := R1.at hi
      have hb2 := (W.fb f (List.mem_of_getElem? f2)).2
      simp only [hg, Option.map_some, Option.isSome, if_true, Bool.not_true]
      refine stIC_ok (A := A.tick) (n := n + 1) (k := .inr y) (i := i) (f := f) R1 W1 rfl hg f1 f2 (by omega) (by omega) (fun q => ?_)
      have R2 := R1.keep (M := []) (b := S1 ++ [Ob.dct (encT iNum A.tick.cur)]) Kp.ext (fun _ _ h => by cases h)
      exact told [] _ (hq L _ (R2.file f1 f2 fun f => (f.1 ++ x, f.2)) rfl (fun i hi => .inl hi) ((kp1.trans Kp.ext fun i hi _ => hi).trans (Kp.set (mem_h f1)) fun i hi _ => hi))
  | sync =>
    unfold step opSync at hs
    cases hf : find A v with
    | none => rw [hf] at hs; cases hs
    | some i =>
      rw [hf] at hs hg
      simp only [out_not hp, Bool.false_eq_true, if_false] at hs
      cases hs
      have hi : i < A.fl.length := find_lt W hf
      obtain ⟨h, f, f1, f2⟩ := R1.at hi
      have hb := (W.fb f (List.mem_of_getElem? f2)).2
      simp only [sIfS, Deed.str, sRet, sSeq, sAsg, sIfS, sSkip, sAsgG, sDrop, sRaise, sOp, sCB, sCons, sNil, sVar, sC, sTup, sNeg, sNot, sTest, sNotT, sAndT, sOrT, sAnd, sOr, sIf, sChain, sCall, ini, endOf, kName, kTup2, kTup3, oAdd, oI, oI0, oIs, oType, tyName, isNon_non, isNon_tup, isNon_int, atI_0, atI_1, atI_n, eq2_ii, ne2_ii, List.map_cons, List.map_nil, List.length_cons, List.length_nil, List.cons_append, List.nil_append, List.append_nil, List.replicate_succ, List.replicate_zero, List.getElem?_cons_zero, List.getElem?_cons_succ, List.set_cons_zero, List.set_cons_succ, Bool.false_eq_true, decide_true, decide_false, Bool.not_true, Bool.not_false, ↓reduceIte, Nat.reduceAdd, Nat.reduceSub, Nat.zero_add, Option.isSome, true_and, sAtt, sSetAtt, sMeth, sMake, eq2_ss, ne_sync_append]
      refine stIS_ok (A := A.tick) (k := k) (i := i) R1 hm1 hk hg f1 f2 (by omega) ?_
      exact told [] _ (hq L _ (R1.file f1 f2 fun f => (f.1, f.1.length)) rfl (fun i hi => .inl hi) (kp1.trans (Kp.set (mem_h f1)) fun i hi _ => hi))
  | names =>
    unfold step opNames at hs
    simp only [out_not hp, Bool.false_eq_true, if_false] at hs
    cases hs
    simp only [sIfS, Deed.str, sRet, sSeq, sAsg, sIfS, sSkip, sAsgG, sDrop, sRaise, sOp, sCB, sCons, sNil, sVar, sC, sTup, sNeg, sNot, sTest, sNotT, sAndT, sOrT, sAnd, sOr, sIf, sChain, sCall, ini, endOf, kName, kTup2, kTup3, oAdd, oI, oI0, oIs, oType, tyName, isNon_non, isNon_tup, isNon_int, atI_0, atI_1, atI_n, eq2_ii, ne2_ii, List.map_cons, List.map_nil, List.length_cons, List.length_nil, List.cons_append, List.nil_append, List.append_nil, List.replicate_succ, List.replicate_zero, List.getElem?_cons_zero, List.getElem?_cons_succ, List.set_cons_zero, List.set_cons_succ, Bool.false_eq_true, decide_true, decide_false, Bool.not_true, Bool.not_false, ↓reduceIte, Nat.reduceAdd, Nat.reduceSub, Nat.zero_add, Option.isSome, true_and, sAtt, sSetAtt, sMeth, sMake, eq2_ss, ne_names_append, ne_names_sync]
    refine stIN_ok (A := A.tick) R1 ?_
    refine told [] _ (hq _ _ (R1.flat hm1 hmf) rfl (fun i hi => ?_) (((kp1.trans Kp.ext fun i hi _ => hi)).trans (Kp.set (mem_o L)) fun i hi _ => hi))
    simp only [LL.hs, List.mem_cons] at hi ⊢
    have := kp1.1
    rcases hi with hi | hi | hi | hi | hi
    · exact .inl (.inl hi)
    · exact .inr (by omega)
    · exact .inr (by omega)
    · exact .inl (.inr (.inr (.inr (.inl hi))))
    · exact .inl (.inr (.inr (.inr (.inr hi))))
  | remove =>
    unfold step opRemove at hs
    cases hf : find A v with
    | none => rw [hf] at hs; cases hs
    | some i =>
      rw [hf] at hs
      simp only [out_not hp, Bool.false_eq_true, if_false] at hs
      cases hs
      obtain ⟨x, rfl, hx⟩ := find_txt hf
      simp only [sIfS, Deed.str, sRet, sSeq, sAsg, sIfS, sSkip, sAsgG, sDrop, sRaise, sOp, sCB, sCons, sNil, sVar, sC, sTup, sNeg, sNot, sTest, sNotT, sAndT, sOrT, sAnd, sOr, sIf, sChain, sCall, ini, endOf, kName, kTup2, kTup3, oAdd, oI, oI0, oIs, oType, tyName, isNon_non, isNon_tup, isNon_int, atI_0, atI_1, atI_n, eq2_ii, ne2_ii, List.map_cons, List.map_nil, List.length_cons, List.length_nil, List.cons_append, List.nil_append, List.append_nil, List.replicate_succ, List.replicate_zero, List.getElem?_cons_zero, List.getElem?_cons_succ, List.set_cons_zero, List.set_cons_succ, Bool.false_eq_true, decide_true, decide_false, Bool.not_true, Bool.not_false, ↓reduceIte, Nat.reduceAdd, Nat.reduceSub, Nat.zero_add, Option.isSome, true_and, sAtt, sSetAtt, sMeth, sMake, eq2_ss, ne_remove_append, ne_remove_sync, ne_remove_names]
      have hj := W.jl
      refine stIJ_ok (A := A.tick) (j := .remove x w) R1 (by show A.jr.length ≤ 200; omega) rfl ?_
      exact told [] _ (hq L _ (R1.push) rfl (fun i hi => .inl hi) (kp1.trans (Kp.set (mem_j L)) fun i hi _ => hi))
  | rename =>
    unfold step opRename at hs
    cases hf : find A v with
    | none => rw [hf] at hs; cases hs
    | some i =>
      rw [hf] at hs
      cases hb : nameB w with
      | false =>
        simp only [hb, if_true] at hs
        cases hs
      | true =>
        simp only [hb, Bool.true_eq_false, if_false, out_not hp, Bool.false_eq_true] at hs
        cases hs
        obtain ⟨x, rfl, hx⟩ := find_txt hf
        cases w <;> first | (cases hb; done) | skip
        rename_i y
        simp only [sIfS, Deed.str, sRet, sSeq, sAsg, sIfS, sSkip, sAsgG, sDrop, sRaise, sOp, sCB, sCons, sNil, sVar, sC, sTup, sNeg, sNot, sTest, sNotT, sAndT, sOrT, sAnd, sOr, sIf, sChain, sCall, ini, endOf, kName, kTup2, kTup3, oAdd, oI, oI0, oIs, oType, tyName, isNon_non, isNon_tup, isNon_int, atI_0, atI_1, atI_n, eq2_ii, ne2_ii, List.map_cons, List.map_nil, List.length_cons, List.length_nil, List.cons_append, List.nil_append, List.append_nil, List.replicate_succ, List.replicate_zero, List.getElem?_cons_zero, List.getElem?_cons_succ, List.set_cons_zero, List.set_cons_succ, Bool.false_eq_true, decide_true, decide_false, Bool.not_true, Bool.not_false, ↓reduceIte, Nat.reduceAdd, Nat.reduceSub, Nat.zero_add, Option.isSome, true_and, sAtt, sSetAtt, sMeth, sMake, eq2_ss, ne_rename_append, ne_rename_sync, ne_rename_names]
        have hj := W.jl
        refine stIJ_ok (A := A.tick) (j := .rename x y) R1 (by show A.jr.length ≤ 200; omega) rfl ?_
        exact told [] _ (hq L _ (R1.push) rfl (fun i hi => .inl hi) (kp1.trans (Kp.set (mem_j L)) fun i hi _ => hi))
end K5
set_option Elab.async false
set_option linter.all false
set_option maxRecDepth 100000
set_option maxHeartbeats 400000
namespace K5
open PySem PySem.Spec PyProof.Rows L2 Sm Wm Cm Kt Tm
variable {K : PySem.W.Frag} {mg : Str → Option Value}
theorem ext_kp {st a b : Store} (h : Kp [] st a) (e : Ext a b) : Kp [] st b := h.trans (kp_of_ext (M := []) e) fun i hi _ => hi
theorem ext_get {a b : Store} {i : Nat} {o : Ob} (e : Ext a b) (h : a[i]? = some o) : b[i]? = some o := by
  obtain ⟨x, rfl⟩ := e
  rw [List.getElem?_append_left (lt_of h)]
  exact h
/-- the law's look whether power is left -/
theorem stL_okD {st : Store} {L : LL} {A : Dk} {n : Nat} {d v2 : PV} {w x y : PV} {v6 : Option PV} {D : EndP} (R : RepL st L A) (W : WF n A)
    (h1 : A.pow = some A.steps → D.rt (Out.lost A.steps).enc st) (h2 : A.pow ≠ some A.steps → D.nx [some (.hd L.o), some d, some v2, some w, some x, some y, v6] st) :
    stL K mg D [some (.hd L.o), some d, some v2, some w, some x, some y, v6] st := by
  have o4 := ix_at (P := fun x st1 => True) R.o (i := 4) (x := pwP A.pow) rfl
  simp only [stL, sRet, sSeq, sAsg, sIfS, sSkip, sAsgG, sDrop, sRaise, sOp, sCB, sCons, sNil, sVar, sC, sTup, sNeg, sNot, sTest, sNotT, sAndT, sOrT, sAnd, sOr, sIf, sChain, sCall, ini, endOf, kName, kTup2, kTup3, oAdd, oI, oI0, oIs, oType, tyName, isNon_non, isNon_tup, isNon_int, atI_0, atI_1, atI_n, eq2_ii, ne2_ii, List.map_cons, List.map_nil, List.length_cons, List.length_nil, List.cons_append, List.nil_append, List.append_nil, List.replicate_succ, List.replicate_zero, List.getElem?_cons_zero, List.getElem?_cons_succ, List.set_cons_zero, List.set_cons_succ, Bool.false_eq_true, decide_true, decide_false, Bool.not_true, Bool.not_false, ↓reduceIte, Nat.reduceAdd, Nat.reduceSub, Nat.zero_add, Option.isSome, true_and, sAtt, sSetAtt, sMeth, sMake, ix_at R.o (i := 4) (x := pwP A.pow) rfl, ix_at R.o (i := 3) (x := .int (A.steps : Nat)) rfl]
  cases hp : A.pow with
  | none =>
    exact h2 (by rw [hp]; simp)
  | some p =>
    have hle := (W.pw p hp).1
    simp only [pwP, sRet, sSeq, sAsg, sIfS, sSkip, sAsgG, sDrop, sRaise, sOp, sCB, sCons, sNil, sVar, sC, sTup, sNeg, sNot, sTest, sNotT, sAndT, sOrT, sAnd, sOr, sIf, sChain, sCall, ini, endOf, kName, kTup2, kTup3, oAdd, oI, oI0, oIs, oType, tyName, isNon_non, isNon_tup, isNon_int, atI_0, atI_1, atI_n, eq2_ii, ne2_ii, List.map_cons, List.map_nil, List.length_cons, List.length_nil, List.cons_append, List.nil_append, List.append_nil, List.replicate_succ, List.replicate_zero, List.getElem?_cons_zero, List.getElem?_cons_succ, List.set_cons_zero, List.set_cons_succ, Bool.false_eq_true, decide_true, decide_false, Bool.not_true, Bool.not_false, ↓reduceIte, Nat.reduceAdd, Nat.reduceSub, Nat.zero_add, Option.isSome, true_and, sAtt, sSetAtt, sMeth, sMake]
    by_cases e : A.steps = p
    · subst e
      rw [decide_eq_true (by omega)]
      have o5 : st[L.o]? = some (.lst [.dh L.n0, .hd L.j, .dh L.f, .int (A.steps : Nat), .int (A.steps : Nat)]) := by
        have := R.o
        rw [hp] at this
        exact this
      simp only [ix_at o5 (i := 4) (x := .int (A.steps : Nat)) rfl]
      exact ⟨by decide, h1 hp⟩
    · rw [decide_eq_false (by omega)]
      exact h2 (by rw [hp]; intro z; exact e (Option.some.inj z).symm)
theorem steps_ok {st S : Store} {L : LL} {A : Dk} {n m : Nat} {d v w : PV} {a : Deed} {D : EndP} (R : RepL S L A) (W : WF n A) (hn1 : n ≤ 100) (hv : okV v) (hw : okV w) (kp : Kp [] st S) (hm : S[m]? = some (.dct (encT iNum A.cur))) (hmf : m ≠ L.f) (hms : st.length ≤ m)
    (hE : EndsL L st D.rt A (step A v w a)) :
    sSeq (stN K mg) (sSeq (stU K mg) (sSeq (stO K mg) (sSeq (stM K mg) (sSeq (stR K mg) (sSeq (stL K mg) (stT K mg)))))) D [some (.hd L.o), some d, some (.dh m), some (.str a.str), some v, some w, none] S := by
  obtain ⟨k, hk, hg⟩ := find_enc iNum A hv
  have hgn := get_none hg
  refine stN_ok (K := K) (mg := mg) hv (fun hA hb st' he => ?_) (fun hN S2 he2 => ?_)
  · cases a <;> first | (cases hA; done) | skip
    simp only [step, opAppend, hb, if_true] at hE
    exact hE st' (ext_kp kp he)
  have R2 := R.keep (kp_of_ext (M := []) he2) (fun _ _ h => by cases h)
  have kp2 := ext_kp kp he2
  have hm2 := ext_get he2 hm
  refine stU_ok (K := K) (mg := mg) hm2 hk (fun hO hg0 => ?_) (fun hU => ?_)
  · have hf := hgn.mp hg0
    cases a <;> first | (cases hO; done) | skip
    · simp only [step, opSync, hf] at hE
      exact hE S2 kp2
    · simp only [step, opRemove, hf] at hE
      exact hE S2 kp2
    · simp only [step, opRename, hf] at hE
      exact hE S2 kp2
  refine stO_ok (K := K) (mg := mg) hw (fun hA hx => ?_) (fun hX => ?_)
  · cases a <;> first | (cases hA; done) | skip
    have hb := hN rfl
    cases w <;> first | exact hw.elim | skip
    · simp only [step, opAppend, hb, Bool.true_eq_false, if_false] at hE
      exact hE S2 kp2
    · exact absurd rfl (hx _)
  refine stM_ok (K := K) (mg := mg) hm2 hk (fun hA hg0 h8 => ?_) (fun hM => ?_)
  · cases a <;> first | (cases hA; done) | skip
    have hb := hN rfl
    obtain ⟨x, rfl⟩ := hX rfl
    have hf := hgn.mp hg0
    rw [encT_len] at h8
    simp only [step, opAppend, hb, Bool.true_eq_false, if_false, hf, if_pos h8] at hE
    exact hE S2 kp2
  refine stR_ok (K := K) (mg := mg) hw (fun hA hb st' he => ?_) (fun hR S3 he3 => ?_)
  · cases a <;> first | (cases hA; done) | skip
    have hs := hU rfl
    cases hf : find A v with
    | none => rw [hgn.mpr hf] at hs; cases hs
    | some i =>
      simp only [step, opRename, hf, hb, if_true] at hE
      exact hE st' (ext_kp kp2 he)
  have R3 := R2.keep (kp_of_ext (M := []) he3) (fun _ _ h => by cases h)
  have kp3 := ext_kp kp2 he3
  have hm3 := ext_get he3 hm2
  -- what is left: the power, the deed
  have key : (∃ A', A.pow ≠ some A.steps ∧ step A v w a = .inr A') ∨ (A.pow = some A.steps ∧ step A v w a = .inl (.lost A.steps)) := by
    by_cases hp : A.pow = some A.steps
    · right
      refine ⟨hp, ?_⟩
      cases a with
      | append =>
        have hb := hN rfl
        obtain ⟨x, rfl⟩ := hX rfl
        simp only [step, opAppend, hb, Bool.true_eq_false, if_false, out_of hp, if_true]
        cases hf : find A v with
        | none =>
          have h8 := hM rfl (hgn.mpr hf)
          rw [encT_len] at h8
          simp only [if_neg h8]
        | some i => rfl
      | sync =>
        cases hf : find A v with
        | none => have hs := hU rfl; rw [hgn.mpr hf] at hs; cases hs
        | some i => simp only [step, opSync, hf, out_of hp, if_true]
      | names => simp only [step, opNames, out_of hp, if_true]
      | remove =>
        cases hf : find A v with
        | none => have hs := hU rfl; rw [hgn.mpr hf] at hs; cases hs
        | some i => simp only [step, opRemove, hf, out_of hp, if_true]
      | rename =>
        cases hf : find A v with
        | none => have hs := hU rfl; rw [hgn.mpr hf] at hs; cases hs
        | some i =>
          have hb := hR rfl
          simp only [step, opRename, hf, hb, Bool.true_eq_false, if_false, out_of hp, if_true]
    · left
      cases a with
      | append =>
        have hb := hN rfl
        obtain ⟨x, rfl⟩ := hX rfl
        simp only [step, opAppend, hb, Bool.true_eq_false, if_false, out_not hp, Bool.false_eq_true]
        cases hf : find A v with
        | none =>
          have h8 := hM rfl (hgn.mpr hf)
          rw [encT_len] at h8
          simp only [if_neg h8]
          exact ⟨_, hp, rfl⟩
        | some i => exact ⟨_, hp, rfl⟩
      | sync =>
        cases hf : find A v with
        | none => have hs := hU rfl; rw [hgn.mpr hf] at hs; cases hs
        | some i => simp only [step, opSync, hf, out_not hp, Bool.false_eq_true, if_false]; exact ⟨_, hp, rfl⟩
      | names => simp only [step, opNames, out_not hp, Bool.false_eq_true, if_false]; exact ⟨_, hp, rfl⟩
      | remove =>
        cases hf : find A v with
        | none => have hs := hU rfl; rw [hgn.mpr hf] at hs; cases hs
        | some i => simp only [step, opRemove, hf, out_not hp, Bool.false_eq_true, if_false]; exact ⟨_, hp, rfl⟩
      | rename =>
        cases hf : find A v with
        | none => have hs := hU rfl; rw [hgn.mpr hf] at hs; cases hs
        | some i =>
          have hb := hR rfl
          simp only [step, opRename, hf, hb, Bool.true_eq_false, if_false, out_not hp, Bool.false_eq_true]
          exact ⟨_, hp, rfl⟩
  refine stL_okD (K := K) (mg := mg) R3 W (fun hp => ?_) (fun hp => ?_)
  · rcases key with ⟨A', h, _⟩ | ⟨_, hs⟩
    · exact absurd hp h
    · rw [hs] at hE
      exact hE S3 kp3
  · rcases key with ⟨A', _, hs⟩ | ⟨h, _⟩
    · rw [hs] at hE
      exact tail_ok (K := K) (mg := mg) R3 W hn1 hv hw kp3 hm3 hmf hms hp hs hE
    · exact absurd h hp
theorem p__law_step : ∀ pvs st Q PX, S__law_step mg pvs st Q PX → t__law_step K mg (endOf Q PX) (ini N__law_step pvs) st := by
  rintro pvs st Q PX ⟨L, A, n, v, w, a, rfl, R, W, hn1, hv, hw, hE⟩
  apply st_go
  have e : ∀ D : EndP, EndsL L st D.rt A (step A v w a) → sSeq (sAsgG (sVar 1) (kTup3 3 4 5)) (sSeq (sAsg (sCall (S__law_names mg) [] (sCons (sVar 0) (sCons (sCB oLen (sCons (sOp oIx (sVar 0) (sC (.int 1))) sNil)) sNil))) 2) (sSeq (stN K mg) (sSeq (stU K mg) (sSeq (stO K mg) (sSeq (stM K mg) (sSeq (stR K mg) (sSeq (stL K mg) (stT K mg)))))))) D (ini N__law_step [.hd L.o, .tup [.str a.str, v, w]]) st := by
    intro D hE
    have main := steps_ok (K := K) (mg := mg) (m := st.length) (d := .tup [.str a.str, v, w]) (D := D) (R.keep (b := st ++ [Ob.dct (encT iNum A.cur)]) (M := []) Kp.ext (fun _ _ h => by cases h)) W hn1 hv hw Kp.ext (get_end st _) (by have := lt_of R.f; omega) (Nat.le_refl _) hE
    generalize hT : sSeq (stN K mg) (sSeq (stU K mg) (sSeq (stO K mg) (sSeq (stM K mg) (sSeq (stR K mg) (sSeq (stL K mg) (stT K mg)))))) = T at main
    simp only [sRet, sSeq, sAsg, sIfS, sSkip, sAsgG, sDrop, sRaise, sOp, sCB, sCons, sNil, sVar, sC, sTup, sNeg, sNot, sTest, sNotT, sAndT, sOrT, sAnd, sOr, sIf, sChain, sCall, ini, endOf, kName, kTup2, kTup3, oAdd, oI, oI0, oIs, oType, tyName, isNon_non, isNon_tup, isNon_int, atI_0, atI_1, atI_n, eq2_ii, ne2_ii, List.map_cons, List.map_nil, List.length_cons, List.length_nil, List.cons_append, List.nil_append, List.append_nil, List.replicate_succ, List.replicate_zero, List.getElem?_cons_zero, List.getElem?_cons_succ, List.set_cons_zero, List.set_cons_succ, Bool.false_eq_true, decide_true, decide_false, Bool.not_true, Bool.not_false, ↓reduceIte, Nat.reduceAdd, Nat.reduceSub, Nat.zero_add, Option.isSome, true_and, sAtt, sSetAtt, sMeth, sMake, ix_at R.o (i := 1) (x := .hd L.j) rfl, oLen, R.j, List.length_map]
    refine ⟨L, A, n, A.jr.length, rfl, R, W, Nat.le_refl _, ?_⟩
    rw [List.take_length]
    exact main
  exact e (endOf Q PX) hE
end K5
set_option Elab.async false
set_option linter.all false
set_option maxRecDepth 100000
set_option maxHeartbeats 400000
namespace K5
open PySem PySem.Spec PyProof.Rows L2 Sm Wm Cm Kt Tm
variable {K : PySem.W.Frag} {mg : Str → Option Value}
def llB (K : PySem.W.Frag) (mg : Str → Option Value) : SemS := (sSeq (sAsgG (sOp oDIx (sOp oIx (sVar 0) (sC (.int 2))) (sOp oDIx (sVar 4) (sVar 7))) (kUnl2 8 9)) (sSeq (sAsg (sSl (sVar 8) sPN (sPt (sOp oAdd (sVar 9) (sOp oMod (sOp oIx (sVar 3) (sOp oAdd (sVar 6) (sC (.int 1)))) (sOp oAdd (sOp oSub (sCB oLen (sCons (sVar 8) sNil)) (sVar 9)) (sC (.int 1))))))) 8) (sSeq (sSetD (sNew (sCons (sVar 8) (sCons (sCB oLen (sCons (sVar 8) sNil)) sNil))) (sOp oIx (sVar 5) (sC (.int 2))) (sVar 6)) (sSetD (sVar 6) (sOp oIx (sVar 5) (sC (.int 0))) (sVar 7)))))
def llA (K : PySem.W.Frag) (mg : Str → Option Value) : SemS := (sAsg (sOp oAdd2 (sCB oListH (sCons (sVar 1) sNil)) (sOp oRepN (sNew (sCons (sC (.int 0)) sNil)) (sC (.int 20)))) 3)
def llP (K : PySem.W.Frag) (mg : Str → Option Value) : SemS := (sPar 4 5 (sCall (S__law_names mg) [] (sCons (sVar 0) (sCons (sOp oMod (sOp oIx (sVar 3) (sC (.int 0))) (sOp oAdd (sCB oLen (sCons (sOp oIx (sVar 0) (sC (.int 1))) sNil)) (sC (.int 1)))) sNil))) (sCall (S__law_new mg) [] (sCons (sVar 2) sNil)))
theorem ll_go {D : EndP} {ρ : Sm.Env} {st : Store} (h : sSeq (llA K mg) (sSeq (llP K mg) (sSeq (sForI (sIEnumL (sCons (sCB oDSort (sCons (sVar 4) sNil)) sNil)) (kTup2 6 7) (llB K mg)) (sRet (sVar 5)))) D ρ st) : t__law_lost K mg D ρ st := h
/-- the choices, with twenty noughts behind them -/
def padC (c : List Nat) : List PV := c.map iNum ++ List.replicate 20 (.int 0)
theorem pad_get (c : List Nat) (i many : Nat) (hi : i < 20) (hm : 0 < many) (hc : c.length ≤ 20) : ∃ x : Nat, atI (padC c) (i : Nat) = some (.int (x : Nat)) ∧ x % many = pick c i many := by
  rw [atI_n]
  unfold padC pick
  by_cases h : i < c.length
  · refine ⟨c[i], ?_, ?_⟩
    · rw [List.getElem?_append_left (by simpa using h), List.getElem?_map, List.getElem?_eq_getElem h]
      rfl
    · rw [if_pos h]
      simp [h]
  · refine ⟨0, ?_, ?_⟩
    · rw [List.getElem?_append_right (by simpa using Nat.le_of_not_lt h), List.getElem?_replicate]
      rw [if_pos (by simp; omega)]
      rfl
    · rw [if_neg h, Nat.zero_mod]
theorem llA_ok {c : List Nat} {o p : PV} {st : Store} {D : EndP} (hc : c.length ≤ 20) (h : ∀ n st', Ext st st' → st'[n]? = some (.lst (padC c)) → st.length ≤ n → D.nx [some o, some (cTup c), some p, some (.hd n), none, none, none, none, none, none] st') :
    llA K mg D [some o, some (cTup c), some p, none, none, none, none, none, none, none] st := by
  simp only [llA, sRet, sSeq, sAsg, sIfS, sSkip, sAsgG, sDrop, sRaise, sOp, sCB, sCons, sNil, sVar, sC, sTup, sNeg, sNot, sTest, sNotT, sAndT, sOrT, sAnd, sOr, sIf, sChain, sCall, ini, endOf, kName, kTup2, kTup3, oAdd, oI, oI0, oIs, oType, tyName, isNon_non, isNon_tup, isNon_int, atI_0, atI_1, atI_n, eq2_ii, ne2_ii, List.map_cons, List.map_nil, List.length_cons, List.length_nil, List.cons_append, List.nil_append, List.append_nil, List.replicate_succ, List.replicate_zero, List.getElem?_cons_zero, List.getElem?_cons_succ, List.set_cons_zero, List.set_cons_succ, Bool.false_eq_true, decide_true, decide_false, Bool.not_true, Bool.not_false, ↓reduceIte, Nat.reduceAdd, Nat.reduceSub, Nat.zero_add, Option.isSome, true_and, sAtt, sSetAtt, sMeth, sMake, oListH, cTup, sNew, oRepN, oAdd2, get_end]
  refine ⟨by decide, by decide, by decide, by decide, ?_⟩
  have e1 : (st ++ [Ob.lst (c.map iNum)] ++ [Ob.lst [.int 0]] ++ [Ob.lst (List.replicate (Int.toNat 20) [PV.int 0]).flatten])[st.length]? = some (.lst (c.map iNum)) := by
    rw [List.append_assoc, List.append_assoc, List.getElem?_append_right (Nat.le_refl _), Nat.sub_self]
    rfl
  have e2 : (st ++ [Ob.lst (c.map iNum)] ++ [Ob.lst [.int 0]] ++ [Ob.lst (List.replicate (Int.toNat 20) [PV.int 0]).flatten])[(st ++ [Ob.lst (c.map iNum)] ++ [Ob.lst [.int 0]]).length]? = some (.lst (List.replicate 20 (.int 0))) := by
    rw [get_end]
    rfl
  simp only [e1, e2, List.length_map, List.length_replicate]
  refine ⟨by show c.length + 20 ≤ 100000; omega, ?_⟩
  refine h _ _ ⟨[Ob.lst (c.map iNum), Ob.lst [.int 0], Ob.lst (List.replicate (Int.toNat 20) [PV.int 0]).flatten, Ob.lst (padC c)], by simp [padC]⟩ (get_end _ _) (by simp)
/-- what the law has found of names, files behind the loss -/
structure Found (S : Store) (o2 n2 j2 f2 : Nat) (p : PV) (base : Tb) (h : List Nat) (fl : List (Str × Nat)) : Prop where
  o : S[o2]? = some (.lst [.dh n2, .hd j2, .dh f2, .int 0, p])
  n : S[n2]? = some (.dct (encT iNum base))
  j : S[j2]? = some (.lst [])
  f : S[f2]? = some (.dct (fDct h))
  lh : h.length = fl.length
  h : ∀ (i q : Nat) (x : Str × Nat), h[i]? = some q → fl[i]? = some x → S[q]? = some (.lst [.str x.1, .int (x.2 : Nat)])
theorem llB_ok {S : Store} {L : LL} {A : Dk} {T : Tb} {n i k q n0 o2 n2 j2 f2 hi : Nat} {c : List Nat} {y : Str} {f : Str × Nat} {d0 p : PV} {v8 v9 : Option PV} {base : Tb} {h2 : List Nat} {fl2 : List (Str × Nat)} {D : EndP}
    (R : RepL S L A) (W : WF n A) (hc : c.length ≤ 20) (hk : k < 10) (hl : S[n0]? = some (.lst (padC c))) (hT : S[q]? = some (.dct (encT iNum T))) (hg : getT T y = some i) (e1 : L.h[i]? = some hi) (e2 : A.fl[i]? = some f)
    (F : Found S o2 n2 j2 f2 p base h2 fl2) (nf : n2 ≠ f2) (hkl : h2.length = k) (hb : base.length ≤ 10)
    (hq : ∀ a b, D.nx [some (.hd L.o), some d0, some p, some (.hd n0), some (.dh q), some (.hd o2), some (.int (k : Nat)), some (.str y), a, b] (((S ++ [Ob.lst [.str (cutF c k f).1, .int ((cutF c k f).2 : Nat)]]).set f2 (.dct (fDct (h2 ++ [S.length])))).set n2 (.dct (putP (encT iNum base) (.inr y) (iNum k))))) :
    llB K mg D [some (.hd L.o), some d0, some p, some (.hd n0), some (.dh q), some (.hd o2), some (.int (k : Nat)), some (.str y), v8, v9] S := by
  have hbb := W.fb f (List.mem_of_getElem? e2)
  have hn := W.le
  have hh := R.h i hi f e1 e2
  have hge : getP (encT iNum T) (.inr y) = some (iNum i) := by rw [getT_enc, hg]; rfl
  simp only [llB, sRet, sSeq, sAsg, sIfS, sSkip, sAsgG, sDrop, sRaise, sOp, sCB, sCons, sNil, sVar, sC, sTup, sNeg, sNot, sTest, sNotT, sAndT, sOrT, sAnd, sOr, sIf, sChain, sCall, ini, endOf, kName, kTup2, kTup3, oAdd, oI, oI0, oIs, oType, tyName, isNon_non, isNon_tup, isNon_int, atI_0, atI_1, atI_n, eq2_ii, ne2_ii, List.map_cons, List.map_nil, List.length_cons, List.length_nil, List.cons_append, List.nil_append, List.append_nil, List.replicate_succ, List.replicate_zero, List.getElem?_cons_zero, List.getElem?_cons_succ, List.set_cons_zero, List.set_cons_succ, Bool.false_eq_true, decide_true, decide_false, Bool.not_true, Bool.not_false, ↓reduceIte, Nat.reduceAdd, Nat.reduceSub, Nat.zero_add, Option.isSome, true_and, sAtt, sSetAtt, sMeth, sMake, ix_at R.o (i := 2) (x := .dh L.f) rfl, dix_at (dct_at hT) (v := .str y) (k := .inr y) rfl hge, dix_at (dct_at R.f) (v := iNum i) (k := .inl (i : Nat)) rfl (fDct_get _ _ _ e1), kUnl2, hh]
  obtain ⟨x, hx1, hx2⟩ := pad_get c (k + 1) (f.1.length - f.2 + 1) (by omega) (by omega) hc
  have a1 : ((k : Nat) : Int) + 1 = ((k + 1 : Nat) : Int) := by push_cast; rfl
  have a2 : (f.1.length : Int) - (f.2 : Int) + 1 = ((f.1.length - f.2 + 1 : Nat) : Int) := by omega
  simp only [sSl, sPN, sPt, oSl, sRet, sSeq, sAsg, sIfS, sSkip, sAsgG, sDrop, sRaise, sOp, sCB, sCons, sNil, sVar, sC, sTup, sNeg, sNot, sTest, sNotT, sAndT, sOrT, sAnd, sOr, sIf, sChain, sCall, ini, endOf, kName, kTup2, kTup3, oAdd, oI, oI0, oIs, oType, tyName, isNon_non, isNon_tup, isNon_int, atI_0, atI_1, atI_n, eq2_ii, ne2_ii, List.map_cons, List.map_nil, List.length_cons, List.length_nil, List.cons_append, List.nil_append, List.append_nil, List.replicate_succ, List.replicate_zero, List.getElem?_cons_zero, List.getElem?_cons_succ, List.set_cons_zero, List.set_cons_succ, Bool.false_eq_true, decide_true, decide_false, Bool.not_true, Bool.not_false, ↓reduceIte, Nat.reduceAdd, Nat.reduceSub, Nat.zero_add, Option.isSome, true_and, sAtt, sSetAtt, sMeth, sMake, oLen, a1, ix_at hl hx1]
  refine ⟨by omega, ?_⟩
  rw [a2]
  refine ⟨by show ((f.1.length - f.2 + 1 : Nat) : Int) ≠ 0; omega, ?_⟩
  have a3 : ((x : Nat) : Int).fmod ((f.1.length - f.2 + 1 : Nat) : Int) = ((pick c (k + 1) (f.1.length - f.2 + 1) : Nat) : Int) := by
    rw [← hx2, Int.fmod_eq_emod_of_nonneg _ (by omega)]
    rfl
  rw [a3]
  have a4 : ((f.2 : Nat) : Int) + ((pick c (k + 1) (f.1.length - f.2 + 1) : Nat) : Int) = ((f.2 + pick c (k + 1) (f.1.length - f.2 + 1) : Nat) : Int) := by push_cast; rfl
  simp only [a4]
  refine ⟨by omega, ?_⟩
  have hcut := cut_len f.1 (f.2 + pick c (k + 1) (f.1.length - f.2 + 1))
  have ecut : Txt.slice f.1 none (some ((f.2 + pick c (k + 1) (f.1.length - f.2 + 1) : Nat) : Int)) = (cutF c k f).1 := rfl
  rw [ecut] at hcut
  simp only [ecut]
  have o3 : ∀ x : Ob, (S ++ [x])[o2]? = some (.lst [.dh n2, .hd j2, .dh f2, .int 0, p]) := fun x => by rw [List.getElem?_append_left (lt_of F.o)]; exact F.o
  have f3 : ∀ x : Ob, (S ++ [x])[f2]? = some (.dct (fDct h2)) := fun x => by rw [List.getElem?_append_left (lt_of F.f)]; exact F.f
  simp only [sSetD, sNew, sRet, sSeq, sAsg, sIfS, sSkip, sAsgG, sDrop, sRaise, sOp, sCB, sCons, sNil, sVar, sC, sTup, sNeg, sNot, sTest, sNotT, sAndT, sOrT, sAnd, sOr, sIf, sChain, sCall, ini, endOf, kName, kTup2, kTup3, oAdd, oI, oI0, oIs, oType, tyName, isNon_non, isNon_tup, isNon_int, atI_0, atI_1, atI_n, eq2_ii, ne2_ii, List.map_cons, List.map_nil, List.length_cons, List.length_nil, List.cons_append, List.nil_append, List.append_nil, List.replicate_succ, List.replicate_zero, List.getElem?_cons_zero, List.getElem?_cons_succ, List.set_cons_zero, List.set_cons_succ, Bool.false_eq_true, decide_true, decide_false, Bool.not_true, Bool.not_false, ↓reduceIte, Nat.reduceAdd, Nat.reduceSub, Nat.zero_add, Option.isSome, true_and, sAtt, sSetAtt, sMeth, sMake, oLen, ix_at (o3 _) (i := 2) (x := .dh f2) rfl, keyP, f3]
  have ef : putP (fDct h2) (.inl ((k : Nat) : Int)) (.hd S.length) = fDct (h2 ++ [S.length]) := by
    rw [← hkl, putP_new (fDct_new h2), fDct_app]
  rw [ef]
  have o4 : ((S ++ [Ob.lst [.str (cutF c k f).1, .int ((cutF c k f).1.length : Nat)]]).set f2 (.dct (fDct (h2 ++ [S.length]))))[o2]? = some (.lst [.dh n2, .hd j2, .dh f2, .int 0, p]) := by
    rw [set_ne (lst_ne (f3 (Ob.lst [.str (cutF c k f).1, .int ((cutF c k f).1.length : Nat)])) (o3 _) (by intro e; cases e))]
    exact o3 _
  have n4 : ((S ++ [Ob.lst [.str (cutF c k f).1, .int ((cutF c k f).1.length : Nat)]]).set f2 (.dct (fDct (h2 ++ [S.length]))))[n2]? = some (.dct (encT iNum base)) := by
    rw [set_ne (Ne.symm nf), List.getElem?_append_left (lt_of F.n)]
    exact F.n
  simp only [ix_at o4 (i := 0) (x := .dh n2) rfl, n4, encT_len, fDct_len]
  exact ⟨by omega, by decide, by omega, by omega, hq _ _⟩
theorem Found.grow {S : Store} {o2 n2 j2 f2 : Nat} {p : PV} {base : Tb} {h2 : List Nat} {fl2 : List (Str × Nat)} (F : Found S o2 n2 j2 f2 p base h2 fl2) (nf : n2 ≠ f2) (x : Str × Nat) (base' : Tb) :
    Found (((S ++ [Ob.lst [.str x.1, .int (x.2 : Nat)]]).set f2 (.dct (fDct (h2 ++ [S.length])))).set n2 (.dct (encT iNum base'))) o2 n2 j2 f2 p base' (h2 ++ [S.length]) (fl2 ++ [x]) where
  o := by
    rw [set_ne (lst_ne F.n F.o (by intro e; cases e)), set_ne (lst_ne F.f F.o (by intro e; cases e)), List.getElem?_append_left (lt_of F.o)]
    exact F.o
  n := by
    have : ((S ++ [Ob.lst [.str x.1, .int (x.2 : Nat)]]).set f2 (.dct (fDct (h2 ++ [S.length]))))[n2]? = some (.dct (encT iNum base)) := by
      rw [set_ne (Ne.symm nf), List.getElem?_append_left (lt_of F.n)]
      exact F.n
    exact set_at this
  j := by
    rw [set_ne (lst_ne F.n F.j (by intro e; cases e)), set_ne (lst_ne F.f F.j (by intro e; cases e)), List.getElem?_append_left (lt_of F.j)]
    exact F.j
  f := by
    have : (S ++ [Ob.lst [.str x.1, .int (x.2 : Nat)]])[f2]? = some (.dct (fDct h2)) := by rw [List.getElem?_append_left (lt_of F.f)]; exact F.f
    rw [set_ne nf]
    exact set_at this
  lh := by simp [F.lh]
  h := fun i q y e1 e2 => by
    by_cases hi : i < h2.length
    · rw [List.getElem?_append_left hi] at e1
      rw [List.getElem?_append_left (by rw [← F.lh]; exact hi)] at e2
      have old := F.h i q y e1 e2
      rw [set_ne (lst_ne F.n old (by intro e; cases e)), set_ne (lst_ne F.f old (by intro e; cases e)), List.getElem?_append_left (lt_of old)]
      exact old
    · rw [List.getElem?_append_right (by omega)] at e1
      rw [List.getElem?_append_right (by rw [← F.lh]; omega), ← F.lh] at e2
      have hi2 : i - h2.length = 0 := by
        by_cases z : i - h2.length = 0
        · exact z
        · rw [List.getElem?_eq_none (by simp; omega)] at e1
          cases e1
      rw [hi2] at e1 e2
      simp at e1 e2
      subst e1 e2
      have b1 := lt_of F.n
      have b2 := lt_of F.f
      rw [set_ne (show n2 ≠ S.length by omega), set_ne (show f2 ≠ S.length by omega)]
      simp
end K5
set_option Elab.async false
set_option linter.all false
set_option maxRecDepth 100000
set_option maxHeartbeats 400000
namespace K5
open PySem PySem.Spec PyProof.Rows L2 Sm Wm Cm Kt Tm
variable {K : PySem.W.Frag} {mg : Str → Option Value}
theorem lostF_app (A : Dk) (T : Tb) (c : List Nat) : ∀ (ys : List Str) (k : Nat) (z : Str), lostF A T c k (ys ++ [z]) = lostF A T c k ys ++ [cutF c (k + ys.length) (A.fl.getD ((getT T z).getD 0) ("", 0))]
  | [], k, z => rfl
  | y :: r, k, z => by
    simp only [List.cons_append, lostF, lostF_app A T c r, List.length_cons]
    rw [show k + 1 + r.length = k + (r.length + 1) by omega]
theorem zip_app (ys : List Str) (y : Str) : (ys ++ [y]).zipIdx = ys.zipIdx ++ [(y, ys.length)] := by
  rw [List.zipIdx_append]
  simp
theorem RepL.low {st : Store} {L : LL} {A : Dk} (R : RepL st L A) : ∀ i ∈ L.hs, i < st.length := by
  intro i hi
  simp only [LL.hs, List.mem_cons] at hi
  rcases hi with rfl | rfl | rfl | rfl | hi
  · exact lt_of R.o
  · exact lt_of R.n0
  · exact lt_of R.j
  · exact lt_of R.f
  · obtain ⟨k, hk, e⟩ := List.getElem_of_mem hi
    have e1 : L.h[k]? = some i := by rw [List.getElem?_eq_getElem hk, e]
    have hk2 : k < A.fl.length := by rw [← R.lh]; exact hk
    exact lt_of (R.h k i _ e1 (List.getElem?_eq_getElem hk2))
theorem ll_loop {st : Store} {L : LL} {A : Dk} {T : Tb} {n q n0 o2 n2 j2 f2 : Nat} {c : List Nat} {d0 p : PV} {D : EndP} {ys : List Str}
    (R0 : RepL st L A) (W : WF n A) (hc : c.length ≤ 20) (ok : okT T A.fl.length) (hys : ∀ y ∈ ys, y ∈ T.map (·.1)) (nd : ys.Nodup) (hl : ys.length ≤ 8) (nf : n2 ≠ f2) (qn : q ≠ n2) (qf : q ≠ f2) (gn : st.length ≤ n2) (gf : st.length ≤ f2)
    (hq : ∀ S h a b e g, Found S o2 n2 j2 f2 p ys.zipIdx h (lostF A T c 0 ys) → h.Nodup → (∀ i ∈ h, st.length ≤ i) → Kp [] st S → D.nx [some (.hd L.o), some d0, some p, some (.hd n0), some (.dh q), some (.hd o2), a, b, e, g] S) :
    ∀ (r done : List Str) (S : Store) (h : List Nat) (v6 v7 v8 v9 : Option PV), ys = done ++ r → S[n0]? = some (.lst (padC c)) → S[q]? = some (.dct (encT iNum T)) → Found S o2 n2 j2 f2 p done.zipIdx h (lostF A T c 0 done) → h.Nodup → (∀ i ∈ h, st.length ≤ i) → Kp [] st S →
      loopC any (kTup2 6 7) (llB K mg) D (enumP done.length (r.map PV.str)) [some (.hd L.o), some d0, some p, some (.hd n0), some (.dh q), some (.hd o2), v6, v7, v8, v9] S := by
  intro r
  induction r with
  | nil =>
    intro done S h v6 v7 v8 v9 e hn0 hT F hnd hlow kp
    rw [List.append_nil] at e
    subst e
    exact ⟨trivial, hq S h _ _ _ _ F hnd hlow kp⟩
  | cons y r ih =>
    intro done S h v6 v7 v8 v9 e hn0 hT F hnd hlow kp
    refine ⟨trivial, ?_⟩
    simp only [kTup2, List.set_cons_succ, List.set_cons_zero]
    have mem : y ∈ ys := by rw [e]; simp
    obtain ⟨⟨y', i⟩, hp, rfl⟩ := List.mem_map.mp (hys y mem)
    have hg := nodup_find ok.1 _ hp
    have hi := (ok.2.2 _ hp).1
    have R := R0.keep kp (fun _ _ h => by cases h)
    have hF : i < L.h.length := by rw [R0.lh]; exact hi
    have f1 : A.fl[i]? = some A.fl[i] := List.getElem?_eq_getElem hi
    have f2' : L.h[i]? = some L.h[i] := List.getElem?_eq_getElem hF
    have hd : done.length ≤ 8 := by rw [e] at hl; simp at hl; omega
    have hhl : h.length = done.length := by rw [F.lh, lostF_len]
    refine llB_ok (T := T) (n := n) (i := i) (k := done.length) (f := A.fl[i]) (h2 := h) R W hc (by omega) hn0 hT hg f2' f1 F nf hhl (by simp; omega) fun a b => ?_
    have fresh : getT done.zipIdx y' = none := by
      rw [getT_none, zip_keys]
      intro hm
      rw [e] at nd
      exact (List.nodup_append.mp nd).2.2 y' hm y' (by simp) rfl
    rw [putT_enc, putT_none fresh, ← zip_app]
    have F2 := F.grow nf (cutF c done.length A.fl[i]) (done ++ [y']).zipIdx
    have e6 : A.fl.getD ((getT T y').getD 0) ("", 0) = A.fl[i] := by
      rw [hg]
      simp [hi]
    have e7 : lostF A T c 0 (done ++ [y']) = lostF A T c 0 done ++ [cutF c done.length A.fl[i]] := by rw [lostF_app, e6, Nat.zero_add]
    rw [← e7] at F2
    have next := ih (done ++ [y']) _ (h ++ [S.length]) (some (.int (done.length : Nat))) (some (.str y')) a b (by rw [e]; simp) ?_ ?_ F2 ?_ ?_ ?_
    · rw [List.length_append] at next
      exact next
    · rw [set_ne (lst_ne F.n hn0 (by intro e; cases e)), set_ne (lst_ne F.f hn0 (by intro e; cases e)), List.getElem?_append_left (lt_of hn0)]
      exact hn0
    · rw [set_ne (Ne.symm qn), set_ne (Ne.symm qf), List.getElem?_append_left (lt_of hT)]
      exact hT
    · rw [List.nodup_append]
      refine ⟨hnd, by simp, fun a ha b hb => ?_⟩
      simp at hb
      subst hb
      intro z
      subst z
      obtain ⟨k, hk, e8⟩ := List.getElem_of_mem ha
      have e9 : h[k]? = some S.length := by rw [List.getElem?_eq_getElem hk, e8]
      have hk2 : k < (lostF A T c 0 done).length := by rw [← F.lh]; exact hk
      have := lt_of (F.h k _ _ e9 (List.getElem?_eq_getElem hk2))
      omega
    · intro j hj
      rcases List.mem_append.mp hj with hj | hj
      · exact hlow j hj
      · simp at hj
        rw [hj]
        exact kp.1
    · refine ⟨by simp; have := kp.1; omega, fun j hj _ => ?_⟩
      rw [set_ne (by omega), set_ne (by omega), List.getElem?_append_left (by have := kp.1; omega)]
      exact kp.2 j hj (by simp)
end K5
set_option Elab.async false
set_option linter.all false
set_option maxRecDepth 100000
set_option maxHeartbeats 400000
namespace K5
open PySem PySem.Spec PyProof.Rows L2 Sm Wm Cm Kt Tm
variable {K : PySem.W.Frag} {mg : Str → Option Value}
theorem llP_ok {st S : Store} {L : LL} {A : Dk} {n n0 : Nat} {c : List Nat} {d0 p : PV} {D : EndP} (R : RepL S L A) (W : WF n A) (hc : c.length ≤ 20) (hn0 : S[n0]? = some (.lst (padC c)))
    (h : D.nx [some (.hd L.o), some d0, some p, some (.hd n0), some (.dh S.length), some (.hd (S.length + 4)), none, none, none, none] (S ++ [Ob.dct (encT iNum (runT A.base (A.jr.take (pick c 0 (A.jr.length + 1))))), Ob.dct [], Ob.lst [], Ob.dct [], Ob.lst [.dh (S.length + 1), .hd (S.length + 2), .dh (S.length + 3), .int 0, p]])) :
    llP K mg D [some (.hd L.o), some d0, some p, some (.hd n0), none, none, none, none, none, none] S := by
  obtain ⟨x, hx1, hx2⟩ := pad_get c 0 (A.jr.length + 1) (by omega) (by omega) hc
  have hj := W.jl
  have hn := W.le
  simp only [llP, sPar, sRet, sSeq, sAsg, sIfS, sSkip, sAsgG, sDrop, sRaise, sOp, sCB, sCons, sNil, sVar, sC, sTup, sNeg, sNot, sTest, sNotT, sAndT, sOrT, sAnd, sOr, sIf, sChain, sCall, ini, endOf, kName, kTup2, kTup3, oAdd, oI, oI0, oIs, oType, tyName, isNon_non, isNon_tup, isNon_int, atI_0, atI_1, atI_n, eq2_ii, ne2_ii, List.map_cons, List.map_nil, List.length_cons, List.length_nil, List.cons_append, List.nil_append, List.append_nil, List.replicate_succ, List.replicate_zero, List.getElem?_cons_zero, List.getElem?_cons_succ, List.set_cons_zero, List.set_cons_succ, Bool.false_eq_true, decide_true, decide_false, Bool.not_true, Bool.not_false, ↓reduceIte, Nat.reduceAdd, Nat.reduceSub, Nat.zero_add, Option.isSome, true_and, sAtt, sSetAtt, sMeth, sMake, ix_at R.o (i := 1) (x := .hd L.j) rfl, oLen, R.j, List.length_map]
  have a0 : oIx (.hd n0) (.int 0) S = fun P => P (.int (x : Nat)) S := by
    funext P
    exact ix_at hn0 hx1
  simp only [a0, ix_at R.o (i := 1) (x := .hd L.j) rfl, R.j, List.length_map]
  have a1 : ((A.jr.length : Nat) : Int) + 1 = ((A.jr.length + 1 : Nat) : Int) := by push_cast; rfl
  rw [a1]
  refine ⟨by show ((A.jr.length + 1 : Nat) : Int) ≠ 0; omega, ?_⟩
  have a3 : ((x : Nat) : Int).fmod ((A.jr.length + 1 : Nat) : Int) = ((pick c 0 (A.jr.length + 1) : Nat) : Int) := by
    rw [← hx2, Int.fmod_eq_emod_of_nonneg _ (by omega)]
    rfl
  simp only [a3]
  have hlt : pick c 0 (A.jr.length + 1) ≤ A.jr.length := by
    unfold pick
    split
    · exact Nat.le_of_lt_succ (Nat.mod_lt _ (by omega))
    · omega
  refine ⟨L, A, n, pick c 0 (A.jr.length + 1), rfl, R, W, hlt, ?_⟩
  refine ⟨p, rfl, ?_⟩
  have e : (S ++ [Ob.dct (encT iNum (runT A.base (A.jr.take (pick c 0 (A.jr.length + 1)))))]).length = S.length + 1 := by simp
  rw [e, List.append_assoc]
  exact h
theorem p__law_lost : ∀ pvs st Q PX, S__law_lost mg pvs st Q PX → t__law_lost K mg (endOf Q PX) (ini N__law_lost pvs) st := by
  rintro pvs st Q PX ⟨L, A, n, c, pw, rfl, R, W, hc, hcb, hq⟩
  apply ll_go
  have main : ∀ D : EndP, (∀ v st', D.rt v st' ↔ Q v st') → sSeq (llA K mg) (sSeq (llP K mg) (sSeq (sForI (sIEnumL (sCons (sCB oDSort (sCons (sVar 4) sNil)) sNil)) (kTup2 6 7) (llB K mg)) (sRet (sVar 5)))) D [some (.hd L.o), some (cTup c), some (pwP pw), none, none, none, none, none, none, none] st := by
    intro D hD
    refine llA_ok (K := K) (mg := mg) hc fun n0 S1 he hn0 gn0 => ?_
    have kp1 := kp_of_ext (M := []) he
    have R1 := R.keep kp1 (fun _ _ h => by cases h)
    refine llP_ok (K := K) (mg := mg) (st := st) R1 W hc hn0 ?_
    have ok := okJ_take _ _ W.okj (pick c 0 (A.jr.length + 1))
    generalize hT : runT A.base (A.jr.take (pick c 0 (A.jr.length + 1))) = T at ok hq
    generalize hS2 : S1 ++ [Ob.dct (encT iNum T), Ob.dct [], Ob.lst [], Ob.dct [], Ob.lst [.dh (S1.length + 1), .hd (S1.length + 2), .dh (S1.length + 3), .int 0, pwP pw]] = S2
    have kp2 : Kp [] st S2 := by rw [← hS2]; exact kp1.trans Kp.ext (fun i hi _ => hi)
    have hq2 : S2[S1.length]? = some (.dct (encT iNum T)) := by rw [← hS2]; simp
    have hn2 : S2[n0]? = some (.lst (padC c)) := by rw [← hS2, List.getElem?_append_left (lt_of hn0)]; exact hn0
    have F0 : Found S2 (S1.length + 4) (S1.length + 1) (S1.length + 2) (S1.length + 3) (pwP pw) ([] : List Str).zipIdx [] (lostF A T c 0 []) := by
      rw [← hS2]
      refine ⟨by simp, by simp [encT], by simp, by simp [fDct], rfl, fun i q x e1 _ => by simp at e1⟩
    have h1 := kp1.1
    have h8 : T.length ≤ 8 := ok.2.1
    simp only [sSeq, sForI, sIEnumL, sRet, sSeq, sAsg, sIfS, sSkip, sAsgG, sDrop, sRaise, sOp, sCB, sCons, sNil, sVar, sC, sTup, sNeg, sNot, sTest, sNotT, sAndT, sOrT, sAnd, sOr, sIf, sChain, sCall, ini, endOf, kName, kTup2, kTup3, oAdd, oI, oI0, oIs, oType, tyName, isNon_non, isNon_tup, isNon_int, atI_0, atI_1, atI_n, eq2_ii, ne2_ii, List.map_cons, List.map_nil, List.length_cons, List.length_nil, List.cons_append, List.nil_append, List.append_nil, List.replicate_succ, List.replicate_zero, List.getElem?_cons_zero, List.getElem?_cons_succ, List.set_cons_zero, List.set_cons_succ, Bool.false_eq_true, decide_true, decide_false, Bool.not_true, Bool.not_false, ↓reduceIte, Nat.reduceAdd, Nat.reduceSub, Nat.zero_add, Option.isSome, true_and, sAtt, sSetAtt, sMeth, sMake, oDSort, dct_at hq2, strKs_enc]
    refine ⟨by rw [List.length_map]; omega, fun ys hperm hsort => ?_⟩
    have nd : ys.Nodup := hperm.nodup_iff.mpr ok.1
    have hyl : ys.length ≤ 8 := by rw [hperm.length_eq, List.length_map]; exact h8
    refine ll_loop (K := K) (mg := mg) (st := st) (L := L) (A := A) (T := T) (n := n) (q := S1.length) (n0 := n0) (o2 := S1.length + 4) (n2 := S1.length + 1) (j2 := S1.length + 2) (f2 := S1.length + 3) (c := c) (d0 := cTup c) (p := pwP pw) (ys := ys)
      R W hc ok (fun y hy => hperm.mem_iff.mp hy) nd hyl (by omega) (by omega) (by omega) (by omega) (by omega) (fun S h a b e g F hnd hlow kp => ?_) ys [] S2 [] none none none none rfl hn2 hq2 F0 List.nodup_nil (fun i hi => by cases hi) kp2
    refine (hD _ _).mpr (hq ys hperm hsort ⟨S1.length + 4, S1.length + 1, S1.length + 2, S1.length + 3, h⟩ S ?_ (fun i hi => ?_) kp)
    · have eA : opLost A c pw ys = ⟨ys.zipIdx, [], lostF A T c 0 ys, 0, pw⟩ := by
        unfold opLost
        rw [hT]
      rw [eA]
      exact ⟨F.o, F.n, F.j, F.f, F.lh, F.h, hnd, by show S1.length + 1 ≠ S1.length + 3; omega⟩
    · simp only [LL.hs, List.mem_cons] at hi
      rcases hi with hi | hi | hi | hi | hi
      · omega
      · omega
      · omega
      · omega
      · exact hlow i hi
  exact main (endOf Q PX) (fun _ _ => Iff.rfl)
end K5
set_option Elab.async false
set_option linter.all false
set_option maxRecDepth 100000
set_option maxHeartbeats 400000
namespace K5
open PySem PySem.Spec PyProof.Rows L2 Sm Wm Cm Kt Tm
/-- one sorted list of the same texts -/
theorem rise_pw : ∀ (r : List Str) (p : Str), risingS p r = true → (p :: r).Pairwise (fun a b => a.cps.toList ≤ b.cps.toList)
  | [], p, _ => by simp
  | x :: r, p, h => by
    simp only [risingS, Bool.and_eq_true, Bool.not_eq_true'] at h
    have ih := rise_pw r x h.2
    have hpx : p.cps.toList ≤ x.cps.toList := by
      have h1 := h.1
      rw [ltCps_eq] at h1
      exact List.not_lt.mp (of_decide_eq_false h1)
    rw [List.pairwise_cons]
    refine ⟨fun y hy => ?_, ih⟩
    rcases List.mem_cons.mp hy with rfl | hy
    · exact hpx
    · exact List.le_trans hpx ((List.pairwise_cons.mp ih).1 y hy)
theorem sorted_pw {l : List Str} (h : sortedS l = true) : l.Pairwise (fun a b => a.cps.toList ≤ b.cps.toList) := by
  cases l with
  | nil => exact .nil
  | cons x r => exact rise_pw r x h
theorem sorted_one {a b : List Str} (hp : a.Perm b) (ha : sortedS a = true) (hb : sortedS b = true) : a = b :=
  List.Perm.eq_of_pairwise (fun x y _ _ h1 h2 => by
    have e := List.le_antisymm h1 h2
    cases x with
    | mk cx =>
      cases y with
      | mk cy =>
        have : cx = cy := by
          apply Array.toList_inj.mp
          exact e
        rw [this]) (sorted_pw ha) (sorted_pw hb) hp
end K5
set_option Elab.async false
set_option linter.all false
set_option maxRecDepth 100000
set_option maxHeartbeats 400000
namespace K5
open PySem PySem.Spec PyProof.Rows L2 Sm Wm Cm Kt Tm
/-- which handler takes which error -/
structure ExmM (K : PySem.W.Frag) (mg : Str → Option Value) : Prop where
  e00 : PySem.W.exmOne K (.ref (ad mg "InvalidName")) (.ref (ad mg "InvalidName")) = some true
  e10 : PySem.W.exmOne K (.ref (ad mg "InvalidNumber")) (.ref (ad mg "InvalidName")) = some false
  e11 : PySem.W.exmOne K (.ref (ad mg "InvalidNumber")) (.ref (ad mg "InvalidNumber")) = some true
  e20 : PySem.W.exmOne K (.ref (ad mg "InvalidOperation")) (.ref (ad mg "InvalidName")) = some false
  e21 : PySem.W.exmOne K (.ref (ad mg "InvalidOperation")) (.ref (ad mg "InvalidNumber")) = some false
  e22 : PySem.W.exmOne K (.ref (ad mg "InvalidOperation")) (.ref (ad mg "InvalidOperation")) = some true
  e30 : PySem.W.exmOne K (.ref (ad mg "UnknownName")) (.ref (ad mg "InvalidName")) = some false
  e31 : PySem.W.exmOne K (.ref (ad mg "UnknownName")) (.ref (ad mg "InvalidNumber")) = some false
  e32 : PySem.W.exmOne K (.ref (ad mg "UnknownName")) (.ref (ad mg "InvalidOperation")) = some false
  e33 : PySem.W.exmOne K (.ref (ad mg "UnknownName")) (.ref (ad mg "UnknownName")) = some true
  e40 : PySem.W.exmOne K (.ref (ad mg "TooMany")) (.ref (ad mg "InvalidName")) = some false
  e41 : PySem.W.exmOne K (.ref (ad mg "TooMany")) (.ref (ad mg "InvalidNumber")) = some false
  e42 : PySem.W.exmOne K (.ref (ad mg "TooMany")) (.ref (ad mg "InvalidOperation")) = some false
  e43 : PySem.W.exmOne K (.ref (ad mg "TooMany")) (.ref (ad mg "UnknownName")) = some false
  e44 : PySem.W.exmOne K (.ref (ad mg "TooMany")) (.ref (ad mg "TooMany")) = some true
  e50 : PySem.W.exmOne K (.ref (ad mg "PowerLost")) (.ref (ad mg "InvalidName")) = some false
  e51 : PySem.W.exmOne K (.ref (ad mg "PowerLost")) (.ref (ad mg "InvalidNumber")) = some false
  e52 : PySem.W.exmOne K (.ref (ad mg "PowerLost")) (.ref (ad mg "InvalidOperation")) = some false
  e53 : PySem.W.exmOne K (.ref (ad mg "PowerLost")) (.ref (ad mg "UnknownName")) = some false
  e54 : PySem.W.exmOne K (.ref (ad mg "PowerLost")) (.ref (ad mg "TooMany")) = some false
  e55 : PySem.W.exmOne K (.ref (ad mg "PowerLost")) (.ref (ad mg "PowerLost")) = some true
section
variable {K : PySem.W.Frag} {mg : Str → Option Value}
theorem word_number (E : ExmM K mg) {v : PV} {st : Store} {P : PK} (h : P (.tup [.str "number", v]) st) : hnd K (gtEnd "told" P) (l_word K mg) ⟨ad mg "InvalidNumber", "given", v⟩ (List.replicate 2 none) st := by
  refine ⟨false, E.e10, nofun, fun _ => ⟨true, E.e11, fun _ a dd => ?_, nofun⟩⟩
  show sRet _ _ _ _
  simp only [sXf, gtEnd, clrP, List.set_cons_zero, sRet, sSeq, sAsg, sIfS, sSkip, sAsgG, sDrop, sRaise, sOp, sCB, sCons, sNil, sVar, sC, sTup, sNeg, sNot, sTest, sNotT, sAndT, sOrT, sAnd, sOr, sIf, sChain, sCall, ini, endOf, kName, kTup2, kTup3, oAdd, oI, oI0, oIs, oType, tyName, isNon_non, isNon_tup, isNon_int, atI_0, atI_1, atI_n, eq2_ii, ne2_ii, List.map_cons, List.map_nil, List.length_cons, List.length_nil, List.cons_append, List.nil_append, List.append_nil, List.replicate_succ, List.replicate_zero, List.getElem?_cons_zero, List.getElem?_cons_succ, List.set_cons_zero, List.set_cons_succ, Bool.false_eq_true, decide_true, decide_false, Bool.not_true, Bool.not_false, ↓reduceIte, Nat.reduceAdd, Nat.reduceSub, Nat.zero_add, Option.isSome, true_and, sAtt, sSetAtt, sMeth, sMake]
  exact ⟨by decide, h⟩
/-- what the def tells of an error -/
theorem word_out (E : ExmM K mg) {o : Out} {e : Exn} (he : isX mg o e) {st : Store} {P : PK} (h : P o.enc st) : hnd K (gtEnd "told" P) (l_word K mg) e (List.replicate 2 none) st := by
  cases o with
  | name =>
    obtain ⟨c, f, v⟩ := e
    obtain ⟨rfl, rfl⟩ := he
    refine ⟨true, E.e00, fun _ _ _ => ?_, nofun⟩
    exact ⟨by decide, h⟩
  | op =>
    obtain ⟨c, f, v⟩ := e
    obtain ⟨rfl, rfl⟩ := he
    refine ⟨false, E.e20, nofun, fun _ => ⟨false, E.e21, nofun, fun _ => ⟨true, E.e22, fun _ _ _ => ?_, nofun⟩⟩⟩
    exact ⟨by decide, h⟩
  | unk v =>
    cases he
    refine ⟨false, E.e30, nofun, fun _ => ⟨false, E.e31, nofun, fun _ => ⟨false, E.e32, nofun, fun _ => ⟨true, E.e33, fun _ a dd => ?_, nofun⟩⟩⟩⟩
    show sRet _ _ _ _
    simp only [sXf, gtEnd, clrP, List.set_cons_zero, sRet, sSeq, sAsg, sIfS, sSkip, sAsgG, sDrop, sRaise, sOp, sCB, sCons, sNil, sVar, sC, sTup, sNeg, sNot, sTest, sNotT, sAndT, sOrT, sAnd, sOr, sIf, sChain, sCall, ini, endOf, kName, kTup2, kTup3, oAdd, oI, oI0, oIs, oType, tyName, isNon_non, isNon_tup, isNon_int, atI_0, atI_1, atI_n, eq2_ii, ne2_ii, List.map_cons, List.map_nil, List.length_cons, List.length_nil, List.cons_append, List.nil_append, List.append_nil, List.replicate_succ, List.replicate_zero, List.getElem?_cons_zero, List.getElem?_cons_succ, List.set_cons_zero, List.set_cons_succ, Bool.false_eq_true, decide_true, decide_false, Bool.not_true, Bool.not_false, ↓reduceIte, Nat.reduceAdd, Nat.reduceSub, Nat.zero_add, Option.isSome, true_and, sAtt, sSetAtt, sMeth, sMake]
    exact ⟨by decide, h⟩
  | many n =>
    cases he
    refine ⟨false, E.e40, nofun, fun _ => ⟨false, E.e41, nofun, fun _ => ⟨false, E.e42, nofun, fun _ => ⟨false, E.e43, nofun, fun _ => ⟨true, E.e44, fun _ a dd => ?_, nofun⟩⟩⟩⟩⟩
    show sRet _ _ _ _
    simp only [sXf, gtEnd, clrP, List.set_cons_zero, sRet, sSeq, sAsg, sIfS, sSkip, sAsgG, sDrop, sRaise, sOp, sCB, sCons, sNil, sVar, sC, sTup, sNeg, sNot, sTest, sNotT, sAndT, sOrT, sAnd, sOr, sIf, sChain, sCall, ini, endOf, kName, kTup2, kTup3, oAdd, oI, oI0, oIs, oType, tyName, isNon_non, isNon_tup, isNon_int, atI_0, atI_1, atI_n, eq2_ii, ne2_ii, List.map_cons, List.map_nil, List.length_cons, List.length_nil, List.cons_append, List.nil_append, List.append_nil, List.replicate_succ, List.replicate_zero, List.getElem?_cons_zero, List.getElem?_cons_succ, List.set_cons_zero, List.set_cons_succ, Bool.false_eq_true, decide_true, decide_false, Bool.not_true, Bool.not_false, ↓reduceIte, Nat.reduceAdd, Nat.reduceSub, Nat.zero_add, Option.isSome, true_and, sAtt, sSetAtt, sMeth, sMake]
    exact ⟨by decide, h⟩
  | lost p =>
    cases he
    refine ⟨false, E.e50, nofun, fun _ => ⟨false, E.e51, nofun, fun _ => ⟨false, E.e52, nofun, fun _ => ⟨false, E.e53, nofun, fun _ => ⟨false, E.e54, nofun, fun _ => ⟨true, E.e55, fun _ a dd => ?_, nofun⟩⟩⟩⟩⟩⟩
    show sRet _ _ _ _
    simp only [sXf, gtEnd, clrP, List.set_cons_zero, sRet, sSeq, sAsg, sIfS, sSkip, sAsgG, sDrop, sRaise, sOp, sCB, sCons, sNil, sVar, sC, sTup, sNeg, sNot, sTest, sNotT, sAndT, sOrT, sAnd, sOr, sIf, sChain, sCall, ini, endOf, kName, kTup2, kTup3, oAdd, oI, oI0, oIs, oType, tyName, isNon_non, isNon_tup, isNon_int, atI_0, atI_1, atI_n, eq2_ii, ne2_ii, List.map_cons, List.map_nil, List.length_cons, List.length_nil, List.cons_append, List.nil_append, List.append_nil, List.replicate_succ, List.replicate_zero, List.getElem?_cons_zero, List.getElem?_cons_succ, List.set_cons_zero, List.set_cons_succ, Bool.false_eq_true, decide_true, decide_false, Bool.not_true, Bool.not_false, ↓reduceIte, Nat.reduceAdd, Nat.reduceSub, Nat.zero_add, Option.isSome, true_and, sAtt, sSetAtt, sMeth, sMake]
    exact ⟨by decide, h⟩
theorem ends_told (E : ExmM K mg) {L : LP} {st : Store} {r : Sum Out Dk} {Q : PK} {PX' : XP} (hE : EndsT mg L st Q r) : EndsP mg L st (fun v st' => Q (.tup [.str "told", v]) st') (fun e st' => hnd K (gtEnd "told" Q) (l_word K mg) e (List.replicate 2 none) st') r := by
  cases r with
  | inl o => exact fun e st' he hk => word_out E he (hE st' hk)
  | inr A' => exact fun L' st' R hd hN hK => hE L' st' R hd hN hK
theorem p__law_done (E : ExmM K mg) : ∀ pvs st Q PX, S__law_done mg pvs st Q PX → t__law_done K mg (endOf Q PX) (ini N__law_done pvs) st := by
  rintro pvs st Q PX ⟨L, A, n, v, w, a, rfl, R, W, hn1, hv, hw, hx, hE⟩
  cases a with
  | append =>
    simp only [t__law_done, sRet, sSeq, sAsg, sIfS, sSkip, sAsgG, sDrop, sRaise, sOp, sCB, sCons, sNil, sVar, sC, sTup, sNeg, sNot, sTest, sNotT, sAndT, sOrT, sAnd, sOr, sIf, sChain, sCall, ini, endOf, kName, kTup2, kTup3, oAdd, oI, oI0, oIs, oType, tyName, isNon_non, isNon_tup, isNon_int, atI_0, atI_1, atI_n, eq2_ii, ne2_ii, List.map_cons, List.map_nil, List.length_cons, List.length_nil, List.cons_append, List.nil_append, List.append_nil, List.replicate_succ, List.replicate_zero, List.getElem?_cons_zero, List.getElem?_cons_succ, List.set_cons_zero, List.set_cons_succ, Bool.false_eq_true, decide_true, decide_false, Bool.not_true, Bool.not_false, ↓reduceIte, Nat.reduceAdd, Nat.reduceSub, Nat.zero_add, Option.isSome, true_and, sAtt, sSetAtt, sMeth, sMake, Deed.str, eq2_ss, sGiveT, disk_at R.d]
    exact ⟨rfl, L, A, n, v, w, rfl, R, W, hn1, hv, hw, hx, ends_told E (PX' := PX) hE⟩
  | sync =>
    simp only [t__law_done, sRet, sSeq, sAsg, sIfS, sSkip, sAsgG, sDrop, sRaise, sOp, sCB, sCons, sNil, sVar, sC, sTup, sNeg, sNot, sTest, sNotT, sAndT, sOrT, sAnd, sOr, sIf, sChain, sCall, ini, endOf, kName, kTup2, kTup3, oAdd, oI, oI0, oIs, oType, tyName, isNon_non, isNon_tup, isNon_int, atI_0, atI_1, atI_n, eq2_ii, ne2_ii, List.map_cons, List.map_nil, List.length_cons, List.length_nil, List.cons_append, List.nil_append, List.append_nil, List.replicate_succ, List.replicate_zero, List.getElem?_cons_zero, List.getElem?_cons_succ, List.set_cons_zero, List.set_cons_succ, Bool.false_eq_true, decide_true, decide_false, Bool.not_true, Bool.not_false, ↓reduceIte, Nat.reduceAdd, Nat.reduceSub, Nat.zero_add, Option.isSome, true_and, sAtt, sSetAtt, sMeth, sMake, Deed.str, eq2_ss, ne_sync_append, sGiveT, disk_at R.d]
    exact ⟨rfl, L, A, n, v, rfl, R, W, hv, ends_told E (PX' := PX) hE⟩
  | names =>
    simp only [t__law_done, sRet, sSeq, sAsg, sIfS, sSkip, sAsgG, sDrop, sRaise, sOp, sCB, sCons, sNil, sVar, sC, sTup, sNeg, sNot, sTest, sNotT, sAndT, sOrT, sAnd, sOr, sIf, sChain, sCall, ini, endOf, kName, kTup2, kTup3, oAdd, oI, oI0, oIs, oType, tyName, isNon_non, isNon_tup, isNon_int, atI_0, atI_1, atI_n, eq2_ii, ne2_ii, List.map_cons, List.map_nil, List.length_cons, List.length_nil, List.cons_append, List.nil_append, List.append_nil, List.replicate_succ, List.replicate_zero, List.getElem?_cons_zero, List.getElem?_cons_succ, List.set_cons_zero, List.set_cons_succ, Bool.false_eq_true, decide_true, decide_false, Bool.not_true, Bool.not_false, ↓reduceIte, Nat.reduceAdd, Nat.reduceSub, Nat.zero_add, Option.isSome, true_and, sAtt, sSetAtt, sMeth, sMake, Deed.str, eq2_ss, ne_names_append, ne_names_sync, show decide (Str.ofString "names" = Str.ofString "remove") = false from by decide +kernel, sGiveT, disk_at R.d]
    exact ⟨rfl, L, A, n, rfl, R, W, ends_told E (PX' := PX) hE⟩
  | remove =>
    simp only [t__law_done, sRet, sSeq, sAsg, sIfS, sSkip, sAsgG, sDrop, sRaise, sOp, sCB, sCons, sNil, sVar, sC, sTup, sNeg, sNot, sTest, sNotT, sAndT, sOrT, sAnd, sOr, sIf, sChain, sCall, ini, endOf, kName, kTup2, kTup3, oAdd, oI, oI0, oIs, oType, tyName, isNon_non, isNon_tup, isNon_int, atI_0, atI_1, atI_n, eq2_ii, ne2_ii, List.map_cons, List.map_nil, List.length_cons, List.length_nil, List.cons_append, List.nil_append, List.append_nil, List.replicate_succ, List.replicate_zero, List.getElem?_cons_zero, List.getElem?_cons_succ, List.set_cons_zero, List.set_cons_succ, Bool.false_eq_true, decide_true, decide_false, Bool.not_true, Bool.not_false, ↓reduceIte, Nat.reduceAdd, Nat.reduceSub, Nat.zero_add, Option.isSome, true_and, sAtt, sSetAtt, sMeth, sMake, Deed.str, eq2_ss, ne_remove_append, ne_remove_sync, sGiveT, disk_at R.d]
    exact ⟨rfl, L, A, n, v, w, rfl, R, W, hv, ends_told E (PX' := PX) hE⟩
  | rename =>
    simp only [t__law_done, sRet, sSeq, sAsg, sIfS, sSkip, sAsgG, sDrop, sRaise, sOp, sCB, sCons, sNil, sVar, sC, sTup, sNeg, sNot, sTest, sNotT, sAndT, sOrT, sAnd, sOr, sIf, sChain, sCall, ini, endOf, kName, kTup2, kTup3, oAdd, oI, oI0, oIs, oType, tyName, isNon_non, isNon_tup, isNon_int, atI_0, atI_1, atI_n, eq2_ii, ne2_ii, List.map_cons, List.map_nil, List.length_cons, List.length_nil, List.cons_append, List.nil_append, List.append_nil, List.replicate_succ, List.replicate_zero, List.getElem?_cons_zero, List.getElem?_cons_succ, List.set_cons_zero, List.set_cons_succ, Bool.false_eq_true, decide_true, decide_false, Bool.not_true, Bool.not_false, ↓reduceIte, Nat.reduceAdd, Nat.reduceSub, Nat.zero_add, Option.isSome, true_and, sAtt, sSetAtt, sMeth, sMake, Deed.str, eq2_ss, ne_rename_append, ne_rename_sync, ne_rename_names, show decide (Str.ofString "rename" = Str.ofString "remove") = false from by decide +kernel, sGiveT, disk_at R.d]
    exact ⟨rfl, L, A, n, v, w, rfl, R, W, hv, hw, ends_told E (PX' := PX) hE⟩
end
end K5
set_option Elab.async false
set_option linter.all false
set_option maxRecDepth 100000
set_option maxHeartbeats 400000
namespace K5
open PySem PySem.Spec PyProof.Rows L2 Sm Wm Cm Kt Tm
variable {K : PySem.W.Frag} {mg : Str → Option Value}
def ilA (K : PySem.W.Frag) (mg : Str → Option Value) : SemS := (sIfS (sOrT (sTest (sOp oNe2 (sProp (ad mg "Disk") (S_Disk_names mg) (sVar 0)) (sCB oTuple (sCons (sCB oDSort (sCons (sVar 2) sNil)) sNil)))) (sOrT (sTest (sOp oNe2 (sProp (ad mg "Disk") (S_Disk_steps mg) (sVar 0)) (sOp oIx (sVar 1) (sC (.int 3))))) (sTest (sOp oNe2 (sCB (oLenO (ad mg "Disk") (S_Disk___len__ mg)) (sCons (sVar 0) sNil)) (sCB oDLen (sCons (sVar 2) sNil)))))) (sRet (sC (.bl false))) sSkip)
def ilB (K : PySem.W.Frag) (mg : Str → Option Value) : SemS := (sIfS (sTest (sOp oNe2 (sLockE (sLcI (sIKeys (sVar 2)) (kName 3) [3] (sTest (sOp oNe2 (sMeth (ad mg "Disk") "read" (S_Disk_read mg) [] (sVar 0) (sCons (sVar 3) sNil)) (sOp oIx (sOp oDIx (sOp oIx (sVar 1) (sC (.int 2))) (sOp oDIx (sVar 2) (sVar 3))) (sC (.int 0))))) (sVar 3))) (sLst sNil))) (sRet (sC (.bl false))) sSkip)
def ilC (K : PySem.W.Frag) (mg : Str → Option Value) : SemS := (sIfS (sOrT (sTest (sOp (oInO false (ad mg "Disk") (S_Disk___contains__ mg)) (sC (.str "zz")) (sVar 0))) (sTest (sOp oNe2 (sLockE (sLcI (sIKeys (sVar 2)) (kName 3) [3] (sTest (sOp (oInO true (ad mg "Disk") (S_Disk___contains__ mg)) (sVar 3) (sVar 0))) (sVar 3))) (sLst sNil)))) (sRet (sC (.bl false))) sSkip)
def ilD (K : PySem.W.Frag) (mg : Str → Option Value) : SemS := (sRet (sOp oEq2 (sCB (oStrO (ad mg "Disk") (S_Disk___str__ mg)) (sCons (sVar 0) sNil)) (sOp oAdd (sOp oAdd (sOp oAdd (sOp oAdd (sC (.str "disk of ")) (sCB oStr (sCons (sCB oDLen (sCons (sVar 2) sNil)) sNil))) (sC (.str " files, "))) (sCB oStr (sCons (sOp oIx (sVar 1) (sC (.int 3))) sNil))) (sC (.str " steps")))))
theorem il_go {D : EndP} {ρ : Sm.Env} {st : Store} (h : sSeq (sAsg (sCall (S__law_names mg) [] (sCons (sVar 1) (sCons (sCB oLen (sCons (sOp oIx (sVar 1) (sC (.int 1))) sNil)) sNil))) 2) (sSeq (ilA K mg) (sSeq (ilB K mg) (sSeq (ilC K mg) (ilD K mg)))) D ρ st) : t__law_is_like K mg D ρ st := h
theorem ne_refl {x : PV} {d : PyData} {st : Store} {P : Sm.PK} (h : dat st x = some d) (hs : SeqAt.shaped d = true) (hn : ∀ s, x ≠ .str s) (hp : P (.bl false) st) : oNe2 x x st P := by
  have e : PyData.eqv d d = true := by
    have h2 := hs
    unfold SeqAt.shaped at h2
    rw [Bool.and_eq_true] at h2
    exact SeqAt.eqv_refl d h2.1
  unfold oNe2
  split
  · rename_i a b
    exact absurd rfl (hn _)
  · show oNe x x st P
    unfold oNe
    rw [h]
    refine ⟨hs, hs, ?_⟩
    rw [e]
    exact hp
theorem ne_none {n : Nat} {st : Store} {P : Sm.PK} (h : st[n]? = some (.lst [])) (hp : P (.bl false) st) : oNe2 (.hd n) (.lst []) st P := by
  show oNe (.hd n) (.lst []) st P
  unfold oNe
  have e : dat st (.hd n) = some (.list []) := by simp only [dat, h, dats0, Option.map_some]
  rw [e]
  have e2 : dat st (.lst []) = some (.list []) := rfl
  rw [e2]
  exact ⟨by decide +kernel, by decide +kernel, hp⟩
theorem compC_none {C : Store → Prop} {n i : Nat} {c : SemT} {f : Sem} {P : PK} {ρ : Sm.Env} {st : Store} (hC : C st) (hp : P (.hd n) st) : ∀ (l : List PV), (∀ x ∈ l, ∀ (P : Bool → Store → Prop) (PX : Sm.XP), P false st → c (ρ.set i (some x)) st P PX) → compC C n (kName i) c f P l ρ st
  | [], _ => ⟨hC, hp⟩
  | x :: r, h => by
    refine ⟨hC, ?_⟩
    simp only [kName]
    exact h x (List.mem_cons_self ..) _ _ (compC_none hC hp r fun y hy => h y (List.mem_cons_of_mem _ hy))
theorem ilA_ok {st : Store} {L : LP} {M : LL} {A : Dk} {n m : Nat} {v3 : Option PV} {D : EndP} (R : RepP mg st L A) (Q : RepL st M A) (W : WF n A) (hm : st[m]? = some (.dct (encT iNum A.cur))) (h : D.nx [some (.oh L.d), some (.hd M.o), some (.dh m), v3] st) :
    ilA K mg D [some (.oh L.d), some (.hd M.o), some (.dh m), v3] st := by
  have ok := okJ_run _ _ W.okj
  have h8 : A.cur.length ≤ 8 := ok.2.1
  simp only [ilA, sProp, sRet, sSeq, sAsg, sIfS, sSkip, sAsgG, sDrop, sRaise, sOp, sCB, sCons, sNil, sVar, sC, sTup, sNeg, sNot, sTest, sNotT, sAndT, sOrT, sAnd, sOr, sIf, sChain, sCall, ini, endOf, kName, kTup2, kTup3, oAdd, oI, oI0, oIs, oType, tyName, isNon_non, isNon_tup, isNon_int, atI_0, atI_1, atI_n, eq2_ii, ne2_ii, List.map_cons, List.map_nil, List.length_cons, List.length_nil, List.cons_append, List.nil_append, List.append_nil, List.replicate_succ, List.replicate_zero, List.getElem?_cons_zero, List.getElem?_cons_succ, List.set_cons_zero, List.set_cons_succ, Bool.false_eq_true, decide_true, decide_false, Bool.not_true, Bool.not_false, ↓reduceIte, Nat.reduceAdd, Nat.reduceSub, Nat.zero_add, Option.isSome, true_and, sAtt, sSetAtt, sMeth, sMake, disk_at R.d]
  refine ⟨L, A, n, rfl, R, W, fun ys hp hs => ?_⟩
  simp only [oDSort, dct_at hm, strKs_enc]
  refine ⟨by rw [List.length_map]; omega, fun zs hp2 hs2 => ?_⟩
  have e := sorted_one (hp.trans hp2.symm) hs hs2
  subst e
  simp only [oTuple]
  have hok : ∀ x ∈ ys, PyData.strOk x = true := fun x hx => by
    obtain ⟨q, hq, e⟩ := List.mem_map.mp (hp.mem_iff.mp hx)
    rw [← e]
    exact (ok.2.2 q hq).2.2
  refine ne_refl (d := .tuple (ys.map .str)) (by simp only [dat, dat0, dats_str, Option.map_some]) (shp_t hok) (fun s z => by cases z) ?_
  simp only [disk_at R.d]
  refine ⟨L.d, pwP A.pow, A.steps, _, rfl, R.d, ?_⟩
  simp only [ix_at Q.o (i := 3) (x := .int (A.steps : Nat)) rfl, ne2_ii, decide_true, Bool.not_true, oLenO, disk_at R.d]
  refine ⟨L, A, rfl, R, by omega, by omega, ?_⟩
  simp only [oDLen, dct_at hm, encT_len, ne2_ii, decide_true, Bool.not_true]
  exact h
theorem locked_none {st : Store} {m : Nat} {T : Tb} {c : SemT} {P : PK} {PX : XP} {o d : PV} (hm : st[m]? = some (.dct (encT iNum T)))
    (hc : ∀ (ob : Obj) (kvs : List (Key × V)), ∀ p ∈ T, ∀ (P : Bool → Store → Prop) (PX : Sm.XP), P false (st.set m (.dck ob kvs (encT iNum T)) ++ [Ob.lst []]) → c [some o, some d, some (.dh m), some (.str p.1)] (st.set m (.dck ob kvs (encT iNum T)) ++ [Ob.lst []]) P PX)
    (hp : P (.hd st.length) (st ++ [Ob.lst []])) : sLockE (sLcI (sIKeys (sVar 2)) (kName 3) [3] c (sVar 3)) [some o, some d, some (.dh m), none] st P PX := by
  simp only [sLockE]
  refine ⟨m, _, hm, fun ob kvs => ?_⟩
  have hs := set_at (o' := .dck ob kvs (encT iNum T)) hm
  simp only [sLcI, sIKeys, sVar, List.getElem?_cons_succ, List.getElem?_cons_zero, hs, keys_enc]
  have hs2 : (st.set m (.dck ob kvs (encT iNum T)) ++ [Ob.lst []])[m]? = some (.dck ob kvs (encT iNum T)) := by rw [List.getElem?_append_left (lt_of hs)]; exact hs
  refine compC_none hs2 ⟨hs2, ?hP⟩ _ (fun x hx P PX h => ?hC)
  case hP =>
    rw [List.set_append_left _ _ (lt_of hs), List.set_set]
    have e4 : st.set m (.dct (encT iNum T)) = st := by
      obtain ⟨hlt, e⟩ := List.getElem?_eq_some_iff.mp hm
      rw [← e]
      exact List.set_getElem_self hlt
    rw [e4, List.length_set]
    exact hp
  case hC =>
    obtain ⟨p, hp2, rfl⟩ := List.mem_map.mp hx
    exact hc ob kvs p hp2 P PX h
theorem ilB_ok {st : Store} {L : LP} {M : LL} {A : Dk} {n m : Nat} {D : EndP} (R : RepP mg st L A) (Q : RepL st M A) (W : WF n A) (hm : st[m]? = some (.dct (encT iNum A.cur))) (hmn : m ∉ L.hs) (hmm : m ∉ M.hs) (h : D.nx [some (.oh L.d), some (.hd M.o), some (.dh m), none] (st ++ [Ob.lst []])) :
    ilB K mg D [some (.oh L.d), some (.hd M.o), some (.dh m), none] st := by
  have ok := okJ_run _ _ W.okj
  simp only [ilB, sIfS, sTest, sOp]
  refine locked_none hm (fun ob kvs p hp P PX h1 => ?_) ?_
  · have kp : Kp [m] st (st.set m (.dck ob kvs (encT iNum A.cur)) ++ [Ob.lst []]) := (Kp.set (by simp)).trans Kp.ext fun i hi _ => hi
    have R2 := R.keep kp (fun i hi hh => by simp at hh; exact hmn (hh ▸ hi))
    have Q2 := Q.keep kp (fun i hi hh => by simp at hh; exact hmm (hh ▸ hi))
    have hs := set_at (o' := .dck ob kvs (encT iNum A.cur)) hm
    have hs2 : (st.set m (.dck ob kvs (encT iNum A.cur)) ++ [Ob.lst []])[m]? = some (.dck ob kvs (encT iNum A.cur)) := by rw [List.getElem?_append_left (lt_of hs)]; exact hs
    generalize st.set m (.dck ob kvs (encT iNum A.cur)) ++ [Ob.lst []] = S at R2 Q2 hs2 h1
    have hf : find A (.str p.1) = some p.2 := nodup_find ok.1 p hp
    have hd : dctAt S (.dh m) = some (encT iNum A.cur) := by simp only [dctAt, hs2]
    have hg : getP (encT iNum A.cur) (.inr p.1) = some (iNum p.2) := by rw [getT_enc, show getT A.cur p.1 = some p.2 from nodup_find ok.1 p hp]; rfl
    have hi : p.2 < A.fl.length := (ok.2.2 p hp).1
    obtain ⟨hh, f, f1, f2⟩ := Q2.at hi
    have hh2 := Q2.h _ _ _ f1 f2
    simp only [sTest, sOp, sRet, sSeq, sAsg, sIfS, sSkip, sAsgG, sDrop, sRaise, sOp, sCB, sCons, sNil, sVar, sC, sTup, sNeg, sNot, sTest, sNotT, sAndT, sOrT, sAnd, sOr, sIf, sChain, sCall, ini, endOf, kName, kTup2, kTup3, oAdd, oI, oI0, oIs, oType, tyName, isNon_non, isNon_tup, isNon_int, atI_0, atI_1, atI_n, eq2_ii, ne2_ii, List.map_cons, List.map_nil, List.length_cons, List.length_nil, List.cons_append, List.nil_append, List.append_nil, List.replicate_succ, List.replicate_zero, List.getElem?_cons_zero, List.getElem?_cons_succ, List.set_cons_zero, List.set_cons_succ, Bool.false_eq_true, decide_true, decide_false, Bool.not_true, Bool.not_false, ↓reduceIte, Nat.reduceAdd, Nat.reduceSub, Nat.zero_add, Option.isSome, true_and, sAtt, sSetAtt, sMeth, sMake, disk_at R2.d]
    refine ⟨rfl, L, A, n, .str p.1, rfl, R2, W, (ok.2.2 p hp).2, fun i' hi' => ?_, fun z => by rw [hf] at z; cases z⟩
    rw [hf] at hi'
    cases hi'
    have ef : A.fl.getD p.2 ("", 0) = f := by simp [f2]
    rw [ef]
    simp only [ix_at Q2.o (i := 2) (x := .dh M.f) rfl, dix_at hd (v := .str p.1) (k := .inr p.1) rfl hg, dix_at (dct_at Q2.f) (v := iNum p.2) (k := .inl (p.2 : Nat)) rfl (fDct_get _ _ _ f1), ix_at hh2 (i := 0) (x := .str f.1) rfl, oNe2, decide_true, Bool.not_true]
    exact h1
  · simp only [sLst, sNil]
    exact ⟨by decide, ne_none (get_end _ _) h⟩
theorem ilC_ok {st : Store} {L : LP} {M : LL} {A : Dk} {n m : Nat} {D : EndP} (R : RepP mg st L A) (W : WF n A) (hz : ∀ p ∈ A.cur, p.1 ≠ "zz") (hm : st[m]? = some (.dct (encT iNum A.cur))) (hmn : m ∉ L.hs) (h : D.nx [some (.oh L.d), some (.hd M.o), some (.dh m), none] (st ++ [Ob.lst []])) :
    ilC K mg D [some (.oh L.d), some (.hd M.o), some (.dh m), none] st := by
  have ok := okJ_run _ _ W.okj
  have hz2 : find A (.str "zz") = none := by
    show getT A.cur "zz" = none
    rw [getT_none]
    intro hm2
    obtain ⟨p, hp, e⟩ := List.mem_map.mp hm2
    exact hz p hp e
  simp only [ilC, sIfS, sOrT, sTest, sOp, sC, sVar, List.getElem?_cons_zero, oInO, disk_at R.d]
  refine ⟨L, A, .str "zz", rfl, R, ⟨by decide, by decide +kernel⟩, ?_⟩
  rw [hz2]
  simp only [Option.isSome, Bool.false_eq_true, if_false]
  refine locked_none hm (fun ob kvs p hp P PX h1 => ?_) ?_
  · have kp : Kp [m] st (st.set m (.dck ob kvs (encT iNum A.cur)) ++ [Ob.lst []]) := (Kp.set (by simp)).trans Kp.ext fun i hi _ => hi
    have R2 := R.keep kp (fun i hi hh => by simp at hh; exact hmn (hh ▸ hi))
    generalize st.set m (.dck ob kvs (encT iNum A.cur)) ++ [Ob.lst []] = S at R2 h1
    have hf : find A (.str p.1) = some p.2 := nodup_find ok.1 p hp
    simp only [sTest, sOp, sRet, sSeq, sAsg, sIfS, sSkip, sAsgG, sDrop, sRaise, sOp, sCB, sCons, sNil, sVar, sC, sTup, sNeg, sNot, sTest, sNotT, sAndT, sOrT, sAnd, sOr, sIf, sChain, sCall, ini, endOf, kName, kTup2, kTup3, oAdd, oI, oI0, oIs, oType, tyName, isNon_non, isNon_tup, isNon_int, atI_0, atI_1, atI_n, eq2_ii, ne2_ii, List.map_cons, List.map_nil, List.length_cons, List.length_nil, List.cons_append, List.nil_append, List.append_nil, List.replicate_succ, List.replicate_zero, List.getElem?_cons_zero, List.getElem?_cons_succ, List.set_cons_zero, List.set_cons_succ, Bool.false_eq_true, decide_true, decide_false, Bool.not_true, Bool.not_false, ↓reduceIte, Nat.reduceAdd, Nat.reduceSub, Nat.zero_add, Option.isSome, true_and, sAtt, sSetAtt, sMeth, sMake, oInO, disk_at R2.d]
    refine ⟨L, A, .str p.1, rfl, R2, (ok.2.2 p hp).2, ?_⟩
    rw [hf]
    exact h1
  · simp only [sLst, sNil]
    exact ⟨by decide, ne_none (get_end _ _) h⟩
theorem ilD_ok {st : Store} {L : LP} {M : LL} {A : Dk} {n m : Nat} {D : EndP} (R : RepP mg st L A) (Q : RepL st M A) (W : WF n A) (hm : st[m]? = some (.dct (encT iNum A.cur))) (h : D.rt (.bl true) st) :
    ilD K mg D [some (.oh L.d), some (.hd M.o), some (.dh m), none] st := by
  have h8 : A.cur.length ≤ 8 := (okJ_run _ _ W.okj).2.1
  simp only [ilD, sRet, sOp, sCB, sCons, sNil, sVar, sC, List.getElem?_cons_zero, List.getElem?_cons_succ, oStrO, disk_at R.d]
  refine ⟨L, A, n, rfl, R, W, ?_⟩
  simp only [oDLen, dct_at hm, encT_len, oStr, oAdd, ix_at Q.o (i := 3) (x := .int (A.steps : Nat)) rfl, len_app, eq2_ss]
  have hn := W.le
  have hsl := W.sl
  have h1 := num_len A.cur.length (by omega)
  have h2 := num_len A.steps (by omega)
  have c1 : (Str.ofString "disk of ").length = 8 := by decide +kernel
  have c2 : (Str.ofString " files, ").length = 8 := by decide +kernel
  have c3 : (Str.ofString " steps").length = 6 := by decide +kernel
  have l1 : ∀ k : Nat, k ≤ 101 → (k : Int).natAbs.log2 < 1920 := fun k hk => by
    show k.log2 < 1920
    rcases Nat.eq_zero_or_pos k with z | z
    · subst z; decide
    · exact (Nat.log2_lt (n := k) (k := 1920) (by omega)).mpr (Nat.lt_of_le_of_lt hk (Nat.lt_of_lt_of_le (by decide : 101 < 2 ^ 10) (Nat.pow_le_pow_right (by decide) (by decide))))
  have z : 1000 ≤ sizeLine := by decide
  refine ⟨l1 _ (by omega), by omega, by omega, l1 _ (by omega), by omega, by omega, ?_⟩
  rw [show decide (sayD A.cur.length A.steps = ((((Str.ofString "disk of " ++ Str.ofString (toString (A.cur.length : Int))) ++ Str.ofString " files, ") ++ Str.ofString (toString (A.steps : Int))) ++ Str.ofString " steps")) = true from decide_eq_true rfl]
  exact h
theorem RepP.low {st : Store} {L : LP} {A : Dk} (R : RepP mg st L A) : ∀ i ∈ L.hs, i < st.length := by
  intro i hi
  simp only [LP.hs, List.mem_cons, List.mem_append] at hi
  rcases hi with rfl | rfl | hi | hi
  · exact lt_of R.d
  · exact lt_of R.t
  · obtain ⟨k, hk, e⟩ := List.getElem_of_mem hi
    exact lt_of (R.tb k i (by rw [List.getElem?_eq_getElem hk, e]))
  · obtain ⟨k, hk, e⟩ := List.getElem_of_mem hi
    have e1 : L.F[k]? = some i := by rw [List.getElem?_eq_getElem hk, e]
    have hk2 : k < A.fl.length := by rw [← R.lF]; exact hk
    exact lt_of (R.F k i _ e1 (List.getElem?_eq_getElem hk2))
theorem p__law_is_like : ∀ pvs st Q PX, S__law_is_like mg pvs st Q PX → t__law_is_like K mg (endOf Q PX) (ini N__law_is_like pvs) st := by
  rintro pvs st Q PX ⟨L, M, A, n, rfl, R, RL, W, hz, hq⟩
  apply il_go
  have main : ∀ D : EndP, (∀ st', Kp [] st st' → D.rt (.bl true) st') → sSeq (sAsg (sCall (S__law_names mg) [] (sCons (sVar 1) (sCons (sCB oLen (sCons (sOp oIx (sVar 1) (sC (.int 1))) sNil)) sNil))) 2) (sSeq (ilA K mg) (sSeq (ilB K mg) (sSeq (ilC K mg) (ilD K mg)))) D [some (.oh L.d), some (.hd M.o), none, none] st := by
    intro D hD
    have low := R.low
    have lowL := RL.low
    have R1 := R.keep (b := st ++ [Ob.dct (encT iNum A.cur)]) (M := []) Kp.ext (fun _ _ h => by cases h)
    have Q1 := RL.keep (b := st ++ [Ob.dct (encT iNum A.cur)]) (M := []) Kp.ext (fun _ _ h => by cases h)
    have hm1 : (st ++ [Ob.dct (encT iNum A.cur)])[st.length]? = some (.dct (encT iNum A.cur)) := get_end _ _
    have nm : st.length ∉ L.hs := fun h => by have := low _ h; omega
    have nl : st.length ∉ M.hs := fun h => by have := lowL _ h; omega
    have R2 := R1.keep (b := st ++ [Ob.dct (encT iNum A.cur)] ++ [Ob.lst []]) (M := []) Kp.ext (fun _ _ h => by cases h)
    have Q2 := Q1.keep (b := st ++ [Ob.dct (encT iNum A.cur)] ++ [Ob.lst []]) (M := []) Kp.ext (fun _ _ h => by cases h)
    have hm2 : (st ++ [Ob.dct (encT iNum A.cur)] ++ [Ob.lst []])[st.length]? = some (.dct (encT iNum A.cur)) := by rw [List.getElem?_append_left (lt_of hm1)]; exact hm1
    have R3 := R2.keep (b := st ++ [Ob.dct (encT iNum A.cur)] ++ [Ob.lst []] ++ [Ob.lst []]) (M := []) Kp.ext (fun _ _ h => by cases h)
    have Q3 := Q2.keep (b := st ++ [Ob.dct (encT iNum A.cur)] ++ [Ob.lst []] ++ [Ob.lst []]) (M := []) Kp.ext (fun _ _ h => by cases h)
    have hm3 : (st ++ [Ob.dct (encT iNum A.cur)] ++ [Ob.lst []] ++ [Ob.lst []])[st.length]? = some (.dct (encT iNum A.cur)) := by rw [List.getElem?_append_left (lt_of hm2)]; exact hm2
    have tail : sSeq (ilA K mg) (sSeq (ilB K mg) (sSeq (ilC K mg) (ilD K mg))) D [some (.oh L.d), some (.hd M.o), some (.dh st.length), none] (st ++ [Ob.dct (encT iNum A.cur)]) := by
      refine ilA_ok (K := K) R1 Q1 W hm1 ?_
      refine ilB_ok (K := K) R1 Q1 W hm1 nm nl ?_
      refine ilC_ok (K := K) R2 W hz hm2 nm ?_
      refine ilD_ok (K := K) R3 Q3 W hm3 ?_
      exact hD _ ((Kp.ext.trans Kp.ext fun i hi _ => hi).trans Kp.ext fun i hi _ => hi)
    generalize hT : sSeq (ilA K mg) (sSeq (ilB K mg) (sSeq (ilC K mg) (ilD K mg))) = T0 at tail
    simp only [sRet, sSeq, sAsg, sIfS, sSkip, sAsgG, sDrop, sRaise, sOp, sCB, sCons, sNil, sVar, sC, sTup, sNeg, sNot, sTest, sNotT, sAndT, sOrT, sAnd, sOr, sIf, sChain, sCall, ini, endOf, kName, kTup2, kTup3, oAdd, oI, oI0, oIs, oType, tyName, isNon_non, isNon_tup, isNon_int, atI_0, atI_1, atI_n, eq2_ii, ne2_ii, List.map_cons, List.map_nil, List.length_cons, List.length_nil, List.cons_append, List.nil_append, List.append_nil, List.replicate_succ, List.replicate_zero, List.getElem?_cons_zero, List.getElem?_cons_succ, List.set_cons_zero, List.set_cons_succ, Bool.false_eq_true, decide_true, decide_false, Bool.not_true, Bool.not_false, ↓reduceIte, Nat.reduceAdd, Nat.reduceSub, Nat.zero_add, Option.isSome, true_and, sAtt, sSetAtt, sMeth, sMake, ix_at RL.o (i := 1) (x := .hd M.j) rfl, oLen, RL.j, List.length_map]
    refine ⟨M, A, n, A.jr.length, rfl, RL, W, Nat.le_refl _, ?_⟩
    rw [List.take_length]
    exact tail
  exact main (endOf Q PX) hq
end K5
set_option Elab.async false
set_option linter.all false
set_option maxRecDepth 100000
set_option maxHeartbeats 400000
namespace K5
open PySem PySem.Spec PyProof.Rows L2 Sm Wm Cm Kt Tm
variable {K : PySem.W.Frag} {mg : Str → Option Value}
def drE (K : PySem.W.Frag) (mg : Str → Option Value) : SemS := (sSeq (sAsg (sCall (S__law_one_of mg) [] (sCons (sVar 0) (sCons (sLst (sCons (sTup (sCons (sNeg (sC (.int 1))) sNil)) (sCons (sC (.int 5)) (sCons (sTup (sCons (sC (.str "a")) sNil)) (sCons (sTup (sCons (sC (.bl true)) sNil)) (sCons (sC .non) sNil)))))) sNil))) 4) (sSeq (sIfS (sTest (sOp oNe2 (sGiveT K (l_word K mg) "told" 2 (sMethK (ad mg "Disk") "lost" 1 1 (S_Disk_lost mg) (fun vs zs => vs ++ zs) (sVar 5) (sCons (sVar 4) sNil) (sCons (sNeg (sC (.int 1))) sNil))) (sTup (sCons (sC (.str "operation")) sNil)))) (sRet (sC (.bl false))) sSkip) (sSeq (sIfS (sTest (sOp oNe2 (sGiveT K (l_word K mg) "told" 2 (sMethK (ad mg "Disk") "lost" 0 1 (S_Disk_lost mg) (fun vs zs => vs ++ [PV.tup []] ++ zs) (sVar 5) sNil (sCons (sC (.int 1000001)) sNil))) (sTup (sCons (sC (.str "number")) (sCons (sC (.int 1000001)) sNil))))) (sRet (sC (.bl false))) sSkip) (sSeq (sIfS (sTest (sOp oNe2 (sGiveT K (l_word K mg) "told" 2 (sMakeK (ad mg "Disk") 0 1 (S_Disk___init__ mg) (fun vs zs => vs ++ zs) sNil (sCons (sNeg (sC (.int 1))) sNil))) (sTup (sCons (sC (.str "number")) (sCons (sNeg (sC (.int 1))) sNil))))) (sRet (sC (.bl false))) sSkip) (sRet (sOp oEq2 (sGiveT K (l_word K mg) "told" 2 (sMeth (ad mg "Disk") "read" (S_Disk_read mg) [] (sVar 5) (sCons (sC (.str "zz")) sNil))) (sTup (sCons (sC (.str "unknown")) (sCons (sC (.str "zz")) sNil)))))))))
theorem eq_self {x : PV} {d : PyData} {st : Store} {P : Sm.PK} (h : dat st x = some d) (hs : SeqAt.shaped d = true) (hn : ∀ s, x ≠ .str s) (hp : P (.bl true) st) : oEq2 x x st P := by
  have e : PyData.eqv d d = true := by
    have h2 := hs
    unfold SeqAt.shaped at h2
    rw [Bool.and_eq_true] at h2
    exact SeqAt.eqv_refl d h2.1
  unfold oEq2
  split
  · rename_i a b
    exact absurd rfl (hn _)
  · show oEq x x st P
    unfold oEq
    rw [h]
    refine ⟨hs, hs, ?_⟩
    rw [e]
    exact hp
/-- what the law asks at its end -/
theorem drE_ok (E : ExmM K mg) {st : Store} {L : LP} {A : Dk} {n nd k : Nat} {a1 a2 a3 a4 a6 a7 a8 a9 aa ab ac ad' ae : Option PV} {D : EndP} (R : RepP mg st L A) (W : WF n A) (hz : find A (.str "zz") = none) (hd : DiceAt nd (k + 1) st) (hnd : nd ∉ L.hs) (h : ∀ st', D.rt (.bl true) st') :
    drE K mg D [some (.hd nd), a1, a2, a3, a4, some (.oh L.d), a6, a7, a8, a9, aa, ab, ac, ad', ae] st := by
  simp only [drE, sRet, sSeq, sAsg, sIfS, sSkip, sAsgG, sDrop, sRaise, sOp, sCB, sCons, sNil, sVar, sC, sTup, sNeg, sNot, sTest, sNotT, sAndT, sOrT, sAnd, sOr, sIf, sChain, sCall, ini, endOf, kName, kTup2, kTup3, oAdd, oI, oI0, oIs, oType, tyName, isNon_non, isNon_tup, isNon_int, atI_0, atI_1, atI_n, eq2_ii, ne2_ii, List.map_cons, List.map_nil, List.length_cons, List.length_nil, List.cons_append, List.nil_append, List.append_nil, List.replicate_succ, List.replicate_zero, List.getElem?_cons_zero, List.getElem?_cons_succ, List.set_cons_zero, List.set_cons_succ, Bool.false_eq_true, decide_true, decide_false, Bool.not_true, Bool.not_false, ↓reduceIte, Nat.reduceAdd, Nat.reduceSub, Nat.zero_add, Option.isSome, true_and, sAtt, sSetAtt, sMeth, sMake, sLst]
  refine ⟨by decide, by decide, by decide, by decide, nd, k, _, rfl, hd, by simp, by decide, fun v hv st1 hd1 a => ?_⟩
  have kp : Kp [nd] st st1 := ⟨a.1, fun i hi hm => a.2 i (fun e => hm (by simp [e])) hi⟩
  have R1 := R.keep kp (fun i hi hh => by simp at hh; exact hnd (hh ▸ hi))
  have hcb : choB v = false ∧ fineB v = true ∧ (∀ l, v = .tup l → l.length ≤ 100) := by
    simp only [List.mem_cons, List.not_mem_nil, or_false] at hv
    rcases hv with rfl | rfl | rfl | rfl | rfl
    · exact ⟨by decide +kernel, by decide +kernel, fun l e => by cases e; decide⟩
    · exact ⟨by decide +kernel, by decide +kernel, fun l e => by cases e⟩
    · exact ⟨by decide +kernel, by decide +kernel, fun l e => by cases e; decide⟩
    · exact ⟨by decide +kernel, by decide +kernel, fun l e => by cases e; decide⟩
    · exact ⟨by decide +kernel, by decide +kernel, fun l e => by cases e⟩
  simp only [sGiveT, sMethK, sRet, sSeq, sAsg, sIfS, sSkip, sAsgG, sDrop, sRaise, sOp, sCB, sCons, sNil, sVar, sC, sTup, sNeg, sNot, sTest, sNotT, sAndT, sOrT, sAnd, sOr, sIf, sChain, sCall, ini, endOf, kName, kTup2, kTup3, oAdd, oI, oI0, oIs, oType, tyName, isNon_non, isNon_tup, isNon_int, atI_0, atI_1, atI_n, eq2_ii, ne2_ii, List.map_cons, List.map_nil, List.length_cons, List.length_nil, List.cons_append, List.nil_append, List.append_nil, List.replicate_succ, List.replicate_zero, List.getElem?_cons_zero, List.getElem?_cons_succ, List.set_cons_zero, List.set_cons_succ, Bool.false_eq_true, decide_true, decide_false, Bool.not_true, Bool.not_false, ↓reduceIte, Nat.reduceAdd, Nat.reduceSub, Nat.zero_add, Option.isSome, true_and, sAtt, sSetAtt, sMeth, sMake, disk_at R1.d]
  refine ⟨rfl, ?_⟩
  refine ⟨L, A, n, v, .int (-1), rfl, R1, W, hcb.2.1, hcb.2.2, ?_, ?_, ?_⟩
  · intro _ st2 he2
    refine word_out E (o := .op) ⟨rfl, rfl⟩ ?_
    refine ⟨by decide, ne_refl (d := .tuple [.str "operation"]) rfl (by decide +kernel) (fun s z => by cases z) ?_⟩
    have R2 := R1.keep (kp_of_ext (M := []) he2) (fun _ _ h => by cases h)
    simp only [disk_at R2.d]
    have bad : badP (.int 1000001) := ⟨1000001, rfl, .inr (by decide), by decide +kernel⟩
    refine ⟨rfl, ?_⟩
    refine ⟨L, A, n, .tup [], .int 1000001, rfl, R2, W, by decide +kernel, (fun l e => by cases e; decide), ?_, ?_, ?_⟩
    · intro z
      exact absurd z (by decide +kernel)
    · intro _ _ st3 he3
      refine word_number E ?_
      refine ⟨by decide, ne_refl (d := .tuple [.str "number", .int 1000001]) rfl (by decide +kernel) (fun s z => by cases z) ?_⟩
      have R3 := R2.keep (kp_of_ext (M := []) he3) (fun _ _ h => by cases h)
      simp only [sMakeK, sRet, sSeq, sAsg, sIfS, sSkip, sAsgG, sDrop, sRaise, sOp, sCB, sCons, sNil, sVar, sC, sTup, sNeg, sNot, sTest, sNotT, sAndT, sOrT, sAnd, sOr, sIf, sChain, sCall, ini, endOf, kName, kTup2, kTup3, oAdd, oI, oI0, oIs, oType, tyName, isNon_non, isNon_tup, isNon_int, atI_0, atI_1, atI_n, eq2_ii, ne2_ii, List.map_cons, List.map_nil, List.length_cons, List.length_nil, List.cons_append, List.nil_append, List.append_nil, List.replicate_succ, List.replicate_zero, List.getElem?_cons_zero, List.getElem?_cons_succ, List.set_cons_zero, List.set_cons_succ, Bool.false_eq_true, decide_true, decide_false, Bool.not_true, Bool.not_false, ↓reduceIte, Nat.reduceAdd, Nat.reduceSub, Nat.zero_add, Option.isSome, true_and, sAtt, sSetAtt, sMeth, sMake]
      have bad2 : badP (.int (-1)) := ⟨-1, rfl, .inl (by decide), by decide +kernel⟩
      refine ⟨st3.length, .int (-1), rfl, get_end _ _, .inr ⟨bad2, ?_⟩⟩
      refine word_number E ?_
      refine ⟨by decide, ne_refl (d := .tuple [.str "number", .int (-1)]) rfl (by decide +kernel) (fun s z => by cases z) ?_⟩
      have R4 := R3.keep (b := st3 ++ [Ob.ins (ad mg "Disk") []]) (M := []) Kp.ext (fun _ _ h => by cases h)
      simp only [disk_at R4.d]
      refine ⟨rfl, L, A, n, .str "zz", rfl, R4, W, ⟨by decide, by decide +kernel⟩, fun i hi => (by rw [hz] at hi; cases hi), fun _ => ?_⟩
      refine word_out E (o := .unk (.str "zz")) rfl ?_
      refine ⟨by decide, eq_self (d := .tuple [.str "unknown", .str "zz"]) rfl (by decide +kernel) (fun s z => by cases z) (h _)⟩
    · intro _ nb
      exact absurd bad nb
  · intro z
    rw [hcb.1] at z
    cases z
  · intro z
    rw [hcb.1] at z
    cases z
end K5
set_option Elab.async false
set_option linter.all false
set_option maxRecDepth 100000
set_option maxHeartbeats 400000
namespace K5
open PySem PySem.Spec PyProof.Rows L2 Sm Wm Cm Kt Tm
variable {K : PySem.W.Frag} {mg : Str → Option Value}
def jz : Jn → Prop
  | .make n _ => n ≠ "zz"
  | .rename _ n => n ≠ "zz"
  | .remove _ _ => True
def tz (T : Tb) : Prop := ∀ p ∈ T, p.1 ≠ "zz"
structure NoZ (A : Dk) : Prop where
  b : tz A.base
  j : ∀ j ∈ A.jr, jz j
theorem tz_put {T : Tb} {y : Str} {i : Nat} (h : tz T) (hy : y ≠ "zz") : tz (putT T y i) := by
  unfold putT
  split
  · intro p hp
    obtain ⟨q, hq, rfl⟩ := List.mem_map.mp hp
    split
    · exact h q hq
    · exact h q hq
  · intro p hp
    rcases List.mem_append.mp hp with hp | hp
    · exact h p hp
    · simp at hp
      subst hp
      exact hy
theorem tz_drop {T : Tb} {y : Str} (h : tz T) : tz (dropT T y) := fun p hp => h p (List.mem_filter.mp hp).1
theorem tz_app {T : Tb} {j : Jn} (h : tz T) (hj : jz j) : tz (app T j) := by
  cases j with
  | make n i => exact tz_put h hj
  | remove n m => exact tz_drop h
  | rename o n =>
    show tz (match getT T o with
    | some i => putT (dropT T o) n i
    | none => T)
    split
    · exact tz_put (tz_drop h) hj
    · exact h
theorem tz_run : ∀ {l : List Jn} {T : Tb}, tz T → (∀ j ∈ l, jz j) → tz (runT T l)
  | [], T, h, _ => h
  | j :: r, T, h, hj => tz_run (l := r) (tz_app h (hj j (List.mem_cons_self ..))) fun k hk => hj k (List.mem_cons_of_mem _ hk)
theorem NoZ.cur {A : Dk} (h : NoZ A) : tz A.cur := tz_run h.b h.j
theorem NoZ.cut {A : Dk} (h : NoZ A) (i : Nat) : tz (runT A.base (A.jr.take i)) := tz_run h.b fun j hj => h.j j (List.mem_of_mem_take hj)
def okW (v : PV) : Prop := okV v ∧ (∀ x, v = .str x → textB v = true) ∧ v ≠ .str "zz"
theorem okW.txt {v : PV} (h : okW v) : txtOf v ≠ "zz" := by
  obtain ⟨h1, _, h3⟩ := h
  cases v <;> first | exact h1.elim | skip
  · show Str.ofString "" ≠ Str.ofString "zz"
    decide +kernel
  · intro e
    exact h3 (congrArg PV.str e)
theorem NoZ.jrn {A : Dk} {j : Jn} {fl : List (Str × Nat)} {s : Nat} (h : NoZ A) (hj : jz j) : NoZ { A with jr := A.jr ++ [j], fl := fl, steps := s } :=
  ⟨h.b, fun k hk => by
    rcases List.mem_append.mp hk with hk | hk
    · exact h.j k hk
    · simp at hk
      subst hk
      exact hj⟩
theorem NoZ.step {A A' : Dk} {v w : PV} {a : Deed} (h : NoZ A) (hv : okW v) (hw : okW w) (hs : K5.step A v w a = .inr A') : NoZ A' := by
  cases a with
  | append =>
    simp only [K5.step, opAppend] at hs
    split at hs
    · cases hs
    · split at hs
      · split at hs
        · split at hs
          · cases hs
          · split at hs
            · cases hs
            · cases hs
              exact h.jrn hv.txt
        · split at hs
          · cases hs
          · cases hs
            exact ⟨h.b, h.j⟩
      · cases hs
  | sync =>
    simp only [K5.step, opSync] at hs
    split at hs
    · cases hs
    · split at hs
      · cases hs
      · cases hs
        exact ⟨h.b, h.j⟩
  | names =>
    simp only [K5.step, opNames] at hs
    split at hs
    · cases hs
    · cases hs
      exact ⟨h.cur, fun j hj => by cases hj⟩
  | remove =>
    simp only [K5.step, opRemove] at hs
    split at hs
    · cases hs
    · split at hs
      · cases hs
      · cases hs
        exact h.jrn trivial
  | rename =>
    simp only [K5.step, opRename] at hs
    split at hs
    · cases hs
    · split at hs
      · cases hs
      · split at hs
        · cases hs
        · cases hs
          exact h.jrn hw.txt
theorem NoZ.lost {A : Dk} {c : List Nat} {pw : Option Nat} {ys : List Str} (h : NoZ A) (hperm : ys.Perm ((runT A.base (A.jr.take (pick c 0 (A.jr.length + 1)))).map (·.1))) : NoZ (opLost A c pw ys) := by
  refine ⟨fun p hp => ?_, fun j hj => by cases hj⟩
  have hm := List.mem_zipIdx hp
  have hy : p.1 ∈ ys := hm.2.2 ▸ List.getElem_mem _
  obtain ⟨q, hq, e⟩ := List.mem_map.mp (hperm.mem_iff.mp hy)
  rw [← e]
  exact h.cut _ q hq
structure Inv (mg : Str → Option Value) (st : Store) (nd : Nat) (L : LP) (M : LL) (A : Dk) (n k : Nat) : Prop where
  R : RepP mg st L A
  Q : RepL st M A
  W : WF n A
  z : NoZ A
  d : DiceAt nd k st
  nL : nd ∉ L.hs
  nM : nd ∉ M.hs
  dj : ∀ i ∈ L.hs, i ∉ M.hs
theorem dice_keep {nd k : Nat} {a b : Store} {M : List Nat} (h : DiceAt nd k a) (kp : Kp M a b) (hn : nd ∉ M) : DiceAt nd k b := by
  obtain ⟨x, y, z, e, i⟩ := h
  exact ⟨x, y, z, kp.at e hn, i⟩
theorem dice_mono {nd k j : Nat} {a : Store} (h : DiceAt nd k a) (hj : j ≤ k) : DiceAt nd j a := by
  obtain ⟨x, y, z, e, i⟩ := h
  exact ⟨x, y, z, e, i.a0, i.aB, i.b0, i.bB, i.c0, by have := i.cB; omega⟩
theorem kp_aft {nd : Nat} {a b : Store} (h : Aft nd a b) : Kp [nd] a b := ⟨h.1, fun i hi hm => h.2 i (fun e => hm (by simp [e])) hi⟩
theorem Inv.keep {a b : Store} {nd n k : Nat} {L : LP} {M : LL} {A : Dk} (I : Inv mg a nd L M A n k) (kp : Kp [] a b) : Inv mg b nd L M A n k :=
  ⟨I.R.keep kp (fun _ _ h => by cases h), I.Q.keep kp (fun _ _ h => by cases h), I.W, I.z, dice_keep I.d kp (fun h => by cases h), I.nL, I.nM, I.dj⟩
theorem Inv.dice {a b : Store} {nd n k j : Nat} {L : LP} {M : LL} {A : Dk} (I : Inv mg a nd L M A n k) (kp : Kp [nd] a b) (hd : DiceAt nd j b) : Inv mg b nd L M A n j :=
  ⟨I.R.keep kp (fun i hi h => by simp at h; exact I.nL (h ▸ hi)), I.Q.keep kp (fun i hi h => by simp at h; exact I.nM (h ▸ hi)), I.W, I.z, hd, I.nL, I.nM, I.dj⟩
theorem Inv.mono {a : Store} {nd n k j : Nat} {L : LP} {M : LL} {A : Dk} (I : Inv mg a nd L M A n k) (h : j ≤ k) : Inv mg a nd L M A n j :=
  ⟨I.R, I.Q, I.W, I.z, dice_mono I.d h, I.nL, I.nM, I.dj⟩
def drL (K : PySem.W.Frag) (mg : Str → Option Value) : SemS := (sSeq (sPar 7 8 (sCall (S__law_one_of mg) [] (sCons (sVar 0) (sCons (sVar 2) sNil))) (sOp oAdd (sC (.str "n")) (sCB oStr (sCons (sCall (S__law_roll mg) [] (sCons (sVar 0) (sCons (sC (.int 10)) sNil))) sNil)))) (sSeq (sIfS (sTest (sOp oEq2 (sVar 7) (sC (.str "lost")))) (sSeq (sAsg (sCB oTuple (sCons (sLcI (sIRng1 (sCall (S__law_roll mg) [] (sCons (sVar 0) (sCons (sC (.int 6)) sNil)))) (kName 14) [14] sYes (sCall (S__law_roll mg) [] (sCons (sVar 0) (sCons (sC (.int 9)) sNil)))) sNil)) 9) (sSeq (sAsg (sIf (sTest (sOp oEq2 (sCall (S__law_roll mg) [] (sCons (sVar 0) (sCons (sC (.int 2)) sNil))) (sC (.int 0)))) (sC .non) (sCall (S__law_roll mg) [] (sCons (sVar 0) (sCons (sC (.int 30)) sNil)))) 1) (sAsgG (sTup (sCons (sMethK (ad mg "Disk") "lost" 1 1 (S_Disk_lost mg) (fun vs zs => vs ++ zs) (sVar 5) (sCons (sVar 9) sNil) (sCons (sVar 1) sNil)) (sCons (sCall (S__law_lost mg) [] (sCons (sVar 6) (sCons (sVar 9) (sCons (sVar 1) sNil)))) sNil))) (kTup2 5 6)))) (sSeq (sAsg (sIf (sTest (sOp oEq2 (sCall (S__law_roll mg) [] (sCons (sVar 0) (sCons (sC (.int 12)) sNil))) (sC (.int 0)))) (sCall (S__law_one_of mg) [] (sCons (sVar 0) (sCons (sLst (sCons (sC (.str "A")) (sCons (sC (.int 5)) (sCons (sC (.str "nine12345")) (sCons (sC (.str "")) sNil))))) sNil))) (sVar 8)) 8) (sSeq (sAsg (sIf (sTest (sOp oGt (sCall (S__law_roll mg) [] (sCons (sVar 0) (sCons (sC (.int 12)) sNil))) (sC (.int 0)))) (sCall (S__law_one_of mg) [] (sCons (sVar 0) (sCons (sLst (sCons (sC (.str "")) (sCons (sC (.str "a")) (sCons (sC (.str "b c")) (sCons (sC (.str "d\ne")) sNil))))) sNil))) (sC (.int 5))) 10) (sSeq (sIfS (sTest (sOp oEq2 (sVar 7) (sC (.str "rename")))) (sSeq (sAsg (sOp oAdd (sC (.str "n")) (sCB oStr (sCons (sCall (S__law_roll mg) [] (sCons (sVar 0) (sCons (sC (.int 10)) sNil))) sNil))) 11) (sAsg (sIf (sTest (sOp oEq2 (sVar 11) (sVar 8))) (sC (.str "other")) (sIf (sTest (sOp oNe2 (sVar 10) (sC (.int 5)))) (sVar 11) (sC (.str "B")))) 10)) sSkip) (sSeq (sPar 12 13 (sCall (S__law_done mg) [] (sCons (sVar 5) (sCons (sTup (sCons (sVar 7) (sCons (sVar 8) (sCons (sVar 10) sNil)))) sNil))) (sCall (S__law_step mg) [] (sCons (sVar 6) (sCons (sTup (sCons (sVar 7) (sCons (sVar 8) (sCons (sVar 10) sNil)))) sNil)))) (sIfS (sOrT (sTest (sOp oNe2 (sOp oIx (sVar 12) (sC (.int 0))) (sOp oIx (sVar 13) (sC (.int 0))))) (sAndT (sTest (sOp oNe2 (sOp oIx (sVar 13) (sC (.int 0))) (sC (.str "told")))) (sTest (sOp oNe2 (sVar 12) (sVar 13))))) (sRet (sC (.bl false))) sSkip)))))) (sIfS (sNotT (sTest (sCall (S__law_is_like mg) [] (sCons (sVar 5) (sCons (sVar 6) sNil))))) (sRet (sC (.bl false))) sSkip)))
def drP (K : PySem.W.Frag) (mg : Str → Option Value) : SemS := (sPar 7 8 (sCall (S__law_one_of mg) [] (sCons (sVar 0) (sCons (sVar 2) sNil))) (sOp oAdd (sC (.str "n")) (sCB oStr (sCons (sCall (S__law_roll mg) [] (sCons (sVar 0) (sCons (sC (.int 10)) sNil))) sNil))))
def drX (K : PySem.W.Frag) (mg : Str → Option Value) : SemS := (sSeq (sAsg (sCB oTuple (sCons (sLcI (sIRng1 (sCall (S__law_roll mg) [] (sCons (sVar 0) (sCons (sC (.int 6)) sNil)))) (kName 14) [14] sYes (sCall (S__law_roll mg) [] (sCons (sVar 0) (sCons (sC (.int 9)) sNil)))) sNil)) 9) (sSeq (sAsg (sIf (sTest (sOp oEq2 (sCall (S__law_roll mg) [] (sCons (sVar 0) (sCons (sC (.int 2)) sNil))) (sC (.int 0)))) (sC .non) (sCall (S__law_roll mg) [] (sCons (sVar 0) (sCons (sC (.int 30)) sNil)))) 1) (sAsgG (sTup (sCons (sMethK (ad mg "Disk") "lost" 1 1 (S_Disk_lost mg) (fun vs zs => vs ++ zs) (sVar 5) (sCons (sVar 9) sNil) (sCons (sVar 1) sNil)) (sCons (sCall (S__law_lost mg) [] (sCons (sVar 6) (sCons (sVar 9) (sCons (sVar 1) sNil)))) sNil))) (kTup2 5 6))))
def drXc (K : PySem.W.Frag) (mg : Str → Option Value) : SemS := (sAsg (sCB oTuple (sCons (sLcI (sIRng1 (sCall (S__law_roll mg) [] (sCons (sVar 0) (sCons (sC (.int 6)) sNil)))) (kName 14) [14] sYes (sCall (S__law_roll mg) [] (sCons (sVar 0) (sCons (sC (.int 9)) sNil)))) sNil)) 9)
def drXl (K : PySem.W.Frag) (mg : Str → Option Value) : SemS := (sAsgG (sTup (sCons (sMethK (ad mg "Disk") "lost" 1 1 (S_Disk_lost mg) (fun vs zs => vs ++ zs) (sVar 5) (sCons (sVar 9) sNil) (sCons (sVar 1) sNil)) (sCons (sCall (S__law_lost mg) [] (sCons (sVar 6) (sCons (sVar 9) (sCons (sVar 1) sNil)))) sNil))) (kTup2 5 6))
def drN (K : PySem.W.Frag) (mg : Str → Option Value) : SemS := (sAsg (sIf (sTest (sOp oEq2 (sCall (S__law_roll mg) [] (sCons (sVar 0) (sCons (sC (.int 12)) sNil))) (sC (.int 0)))) (sCall (S__law_one_of mg) [] (sCons (sVar 0) (sCons (sLst (sCons (sC (.str "A")) (sCons (sC (.int 5)) (sCons (sC (.str "nine12345")) (sCons (sC (.str "")) sNil))))) sNil))) (sVar 8)) 8)
def drM (K : PySem.W.Frag) (mg : Str → Option Value) : SemS := (sAsg (sIf (sTest (sOp oGt (sCall (S__law_roll mg) [] (sCons (sVar 0) (sCons (sC (.int 12)) sNil))) (sC (.int 0)))) (sCall (S__law_one_of mg) [] (sCons (sVar 0) (sCons (sLst (sCons (sC (.str "")) (sCons (sC (.str "a")) (sCons (sC (.str "b c")) (sCons (sC (.str "d\ne")) sNil))))) sNil))) (sC (.int 5))) 10)
def drR (K : PySem.W.Frag) (mg : Str → Option Value) : SemS := (sIfS (sTest (sOp oEq2 (sVar 7) (sC (.str "rename")))) (sSeq (sAsg (sOp oAdd (sC (.str "n")) (sCB oStr (sCons (sCall (S__law_roll mg) [] (sCons (sVar 0) (sCons (sC (.int 10)) sNil))) sNil))) 11) (sAsg (sIf (sTest (sOp oEq2 (sVar 11) (sVar 8))) (sC (.str "other")) (sIf (sTest (sOp oNe2 (sVar 10) (sC (.int 5)))) (sVar 11) (sC (.str "B")))) 10)) sSkip)
def drS (K : PySem.W.Frag) (mg : Str → Option Value) : SemS := (sPar 12 13 (sCall (S__law_done mg) [] (sCons (sVar 5) (sCons (sTup (sCons (sVar 7) (sCons (sVar 8) (sCons (sVar 10) sNil)))) sNil))) (sCall (S__law_step mg) [] (sCons (sVar 6) (sCons (sTup (sCons (sVar 7) (sCons (sVar 8) (sCons (sVar 10) sNil)))) sNil))))
def drC (K : PySem.W.Frag) (mg : Str → Option Value) : SemS := (sIfS (sOrT (sTest (sOp oNe2 (sOp oIx (sVar 12) (sC (.int 0))) (sOp oIx (sVar 13) (sC (.int 0))))) (sAndT (sTest (sOp oNe2 (sOp oIx (sVar 13) (sC (.int 0))) (sC (.str "told")))) (sTest (sOp oNe2 (sVar 12) (sVar 13))))) (sRet (sC (.bl false))) sSkip)
def drK (K : PySem.W.Frag) (mg : Str → Option Value) : SemS := (sIfS (sNotT (sTest (sCall (S__law_is_like mg) [] (sCons (sVar 5) (sCons (sVar 6) sNil))))) (sRet (sC (.bl false))) sSkip)
def wds : PV := .lst [.str "append", .str "append", .str "append", .str "append", .str "sync", .str "names", .str "remove", .str "rename", .str "lost"]
def drY (K : PySem.W.Frag) (mg : Str → Option Value) : SemS := (sAsg (sIf (sTest (sOp oEq2 (sCall (S__law_roll mg) [] (sCons (sVar 0) (sCons (sC (.int 2)) sNil))) (sC (.int 0)))) (sC .non) (sCall (S__law_roll mg) [] (sCons (sVar 0) (sCons (sC (.int 30)) sNil)))) 1)
theorem drX_go {D : EndP} {ρ : Sm.Env} {st : Store} (h : sSeq (drXc K mg) (sSeq (drY K mg) (drXl K mg)) D ρ st) : drX K mg D ρ st := h
def drD (K : PySem.W.Frag) (mg : Str → Option Value) : SemS := sSeq (drN K mg) (sSeq (drM K mg) (sSeq (drR K mg) (sSeq (drS K mg) (drC K mg))))
theorem drL_go {D : EndP} {ρ : Sm.Env} {st : Store} (h : sSeq (drP K mg) (sSeq (sIfS (sTest (sOp oEq2 (sVar 7) (sC (.str "lost")))) (drX K mg) (drD K mg)) (drK K mg)) D ρ st) : drL K mg D ρ st := h
theorem nm_ok (r : Int) (h0 : 0 ≤ r) (h1 : r < 10) : okW (.str (Str.ofString "n" ++ Str.ofString (toString r))) ∧ r.natAbs.log2 < 1920 ∧ (Str.ofString "n").length + (Str.ofString (toString r)).length ≤ sizeLine := by
  have h : r = 0 ∨ r = 1 ∨ r = 2 ∨ r = 3 ∨ r = 4 ∨ r = 5 ∨ r = 6 ∨ r = 7 ∨ r = 8 ∨ r = 9 := by omega
  rcases h with rfl | rfl | rfl | rfl | rfl | rfl | rfl | rfl | rfl | rfl <;>
    exact ⟨⟨⟨by decide +kernel, by decide +kernel⟩, fun x e => by decide +kernel, fun e => by cases e⟩, by decide +kernel, by decide +kernel⟩
theorem drP_ok {st : Store} {L : LP} {M : LL} {A : Dk} {n nd k : Nat} {a1 a3 a4 a5 a6 a7 a8 a9 aa ab ac ad' ae : Option PV} {D : EndP} (I : Inv mg st nd L M A n (k + 2))
    (h : ∀ x v st', x ∈ ([.str "append", .str "append", .str "append", .str "append", .str "sync", .str "names", .str "remove", .str "rename", .str "lost"] : List PV) → okW v → Inv mg st' nd L M A n k → D.nx [some (.hd nd), a1, some wds, a3, a4, a5, a6, some x, some v, a9, aa, ab, ac, ad', ae] st') :
    drP K mg D [some (.hd nd), a1, some wds, a3, a4, a5, a6, a7, a8, a9, aa, ab, ac, ad', ae] st := by
  simp only [drP, sPar, sRet, sSeq, sAsg, sIfS, sSkip, sAsgG, sDrop, sRaise, sOp, sCB, sCons, sNil, sVar, sC, sTup, sNeg, sNot, sTest, sNotT, sAndT, sOrT, sAnd, sOr, sIf, sChain, sCall, ini, endOf, kName, kTup2, kTup3, oAdd, oI, oI0, oIs, oType, tyName, isNon_non, isNon_tup, isNon_int, atI_0, atI_1, atI_n, eq2_ii, ne2_ii, List.map_cons, List.map_nil, List.length_cons, List.length_nil, List.cons_append, List.nil_append, List.append_nil, List.replicate_succ, List.replicate_zero, List.getElem?_cons_zero, List.getElem?_cons_succ, List.set_cons_zero, List.set_cons_succ, Bool.false_eq_true, decide_true, decide_false, Bool.not_true, Bool.not_false, ↓reduceIte, Nat.reduceAdd, Nat.reduceSub, Nat.zero_add, Option.isSome, true_and, sAtt, sSetAtt, sMeth, sMake, wds]
  refine ⟨nd, k + 1, _, rfl, I.d, by simp, by decide, fun v hv st1 hd1 a1' => ?_⟩
  have I1 := I.dice (kp_aft a1') hd1
  refine ⟨nd, k, 10, rfl, hd1, by decide, b_lt (by decide) (by decide), fun r st2 r0 r1 hd2 a2' => ?_⟩
  have I2 := I1.dice (kp_aft a2') hd2
  obtain ⟨h1, h2, h3⟩ := nm_ok r r0 r1
  simp only [oStr]
  exact ⟨h2, h3, h _ _ _ hv h1 I2⟩
end K5
set_option Elab.async false
set_option linter.all false
set_option maxRecDepth 100000
set_option maxHeartbeats 400000
namespace K5
open PySem PySem.Spec PyProof.Rows L2 Sm Wm Cm Kt Tm
variable {K : PySem.W.Frag} {mg : Str → Option Value}
theorem drY_ok {st : Store} {L : LP} {M : LL} {A : Dk} {n nd k : Nat} {a1 a2 a3 a4 a5 a6 a7 a8 a9 aa ab ac ad' ae : Option PV} {D : EndP} (I : Inv mg st nd L M A n (k + 2))
    (h : ∀ pw st', (∀ j, pw = some j → j ≤ 1000000) → Inv mg st' nd L M A n k → D.nx [some (.hd nd), some (pwP pw), a2, a3, a4, a5, a6, a7, a8, a9, aa, ab, ac, ad', ae] st') :
    drY K mg D [some (.hd nd), a1, a2, a3, a4, a5, a6, a7, a8, a9, aa, ab, ac, ad', ae] st := by
  simp only [drY, sRet, sSeq, sAsg, sIfS, sSkip, sAsgG, sDrop, sRaise, sOp, sCB, sCons, sNil, sVar, sC, sTup, sNeg, sNot, sTest, sNotT, sAndT, sOrT, sAnd, sOr, sIf, sChain, sCall, ini, endOf, kName, kTup2, kTup3, oAdd, oI, oI0, oIs, oType, tyName, isNon_non, isNon_tup, isNon_int, atI_0, atI_1, atI_n, eq2_ii, ne2_ii, List.map_cons, List.map_nil, List.length_cons, List.length_nil, List.cons_append, List.nil_append, List.append_nil, List.replicate_succ, List.replicate_zero, List.getElem?_cons_zero, List.getElem?_cons_succ, List.set_cons_zero, List.set_cons_succ, Bool.false_eq_true, decide_true, decide_false, Bool.not_true, Bool.not_false, ↓reduceIte, Nat.reduceAdd, Nat.reduceSub, Nat.zero_add, Option.isSome, true_and, sAtt, sSetAtt, sMeth, sMake]
  refine ⟨nd, k + 1, 2, rfl, I.d, by decide, b_lt (by decide) (by decide), fun r st1 r0 r1 hd1 a1' => ?_⟩
  have I1 := I.dice (kp_aft a1') hd1
  simp only [eq2_ii]
  by_cases hr : r = 0
  · simp only [hr, decide_true]
    exact h none st1 (fun j e => by cases e) (I1.mono (Nat.le_succ k))
  · simp only [decide_eq_false hr]
    refine ⟨nd, k, 30, rfl, hd1, by decide, b_lt (by decide) (by decide), fun q st2 q0 q1 hd2 a2' => ?_⟩
    have I2 := I1.dice (kp_aft a2') hd2
    have e : q = ((q.toNat : Nat) : Int) := by omega
    have := h (some q.toNat) st2 (fun j e2 => by cases e2; omega) I2
    rw [e]
    exact this
theorem plain9 (x : Nat) (h : x < 9) : plainB (iNum x) = true := by
  have h : x = 0 ∨ x = 1 ∨ x = 2 ∨ x = 3 ∨ x = 4 ∨ x = 5 ∨ x = 6 ∨ x = 7 ∨ x = 8 := by omega
  rcases h with rfl | rfl | rfl | rfl | rfl | rfl | rfl | rfl | rfl <;> decide +kernel
theorem few9 (x : Nat) (h : x < 9) : (fewB 60 (iNum x) && decide (0 ≤ ((x : Nat) : Int))) = true := by
  have h : x = 0 ∨ x = 1 ∨ x = 2 ∨ x = 3 ∨ x = 4 ∨ x = 5 ∨ x = 6 ∨ x = 7 ∨ x = 8 := by omega
  rcases h with rfl | rfl | rfl | rfl | rfl | rfl | rfl | rfl | rfl <;> decide +kernel
theorem fine9 {c : List Nat} (h : ∀ x ∈ c, x < 9) : fineB (cTup c) = true := by
  show ((c.map iNum).all plainB) = true
  rw [List.all_eq_true]
  intro v hv
  obtain ⟨x, hx, rfl⟩ := List.mem_map.mp hv
  exact plain9 x (h x hx)
theorem cho9 {c : List Nat} (h : ∀ x ∈ c, x < 9) : choB (cTup c) = true := by
  unfold choB cTup
  dsimp only
  rw [List.all_eq_true]
  intro v hv
  obtain ⟨x, hx, rfl⟩ := List.mem_map.mp hv
  exact few9 x (h x hx)
theorem comp_rolls {mg : Str → Option Value} {nd h k : Nat} {v1 v2 v3 v4 v5 v6 v7 v8 v9 va vb vc vd : Option PV} {P : PK} (st0 : Store) (hn : nd < st0.length) (hh : st0.length ≤ h) : ∀ (j i : Nat) (c : List Nat) (st : Store), c.length + j ≤ 5 → (∀ x ∈ c, x < 9) → st[h]? = some (.lst (c.map iNum)) → DiceAt nd (k + j) st → Kp [nd] st0 st →
    (∀ (c' : List Nat) (st' : Store), c'.length ≤ 5 → (∀ x ∈ c', x < 9) → st'[h]? = some (.lst (c'.map iNum)) → DiceAt nd k st' → Kp [nd] st0 st' → P (.hd h) st') →
    compC any h (kName 14) sYes (sCall (S__law_roll mg) [] (sCons (sVar 0) (sCons (sC (.int 9)) sNil))) P (upto (i : Nat) j) [some (.hd nd), v1, v2, v3, v4, v5, v6, v7, v8, v9, va, vb, vc, vd, none] st
  | 0, i, c, st, hl, hc, e, hd, kp, hq => ⟨trivial, hq c st (by omega) hc e hd kp⟩
  | j + 1, i, c, st, hl, hc, e, hd, kp, hq => by
    refine ⟨trivial, ?_⟩
    simp only [kName, sYes, sRet, sSeq, sAsg, sIfS, sSkip, sAsgG, sDrop, sRaise, sOp, sCB, sCons, sNil, sVar, sC, sTup, sNeg, sNot, sTest, sNotT, sAndT, sOrT, sAnd, sOr, sIf, sChain, sCall, ini, endOf, kName, kTup2, kTup3, oAdd, oI, oI0, oIs, oType, tyName, isNon_non, isNon_tup, isNon_int, atI_0, atI_1, atI_n, eq2_ii, ne2_ii, List.map_cons, List.map_nil, List.length_cons, List.length_nil, List.cons_append, List.nil_append, List.append_nil, List.replicate_succ, List.replicate_zero, List.getElem?_cons_zero, List.getElem?_cons_succ, List.set_cons_zero, List.set_cons_succ, Bool.false_eq_true, decide_true, decide_false, Bool.not_true, Bool.not_false, ↓reduceIte, Nat.reduceAdd, Nat.reduceSub, Nat.zero_add, Option.isSome, true_and, sAtt, sSetAtt, sMeth, sMake]
    refine ⟨nd, k + j, 9, rfl, by rw [Nat.add_assoc]; exact hd, by decide, b_lt (by decide) (by decide), fun r st1 r0 r1 hd1 a1 => ?_⟩
    have hne : h ≠ nd := by omega
    have e1 : st1[h]? = some (.lst (c.map iNum)) := (kp_aft a1).at e (by simp [hne])
    simp only [e1]
    refine ⟨by simp; omega, ?_⟩
    rw [show ((i : Nat) : Int) + 1 = ((i + 1 : Nat) : Int) by omega]
    have er : r = ((r.toNat : Nat) : Int) := by omega
    have ec : c.map iNum ++ [PV.int r] = (c ++ [r.toNat]).map iNum := by
      rw [List.map_append]
      simp only [List.map_cons, List.map_nil, iNum]
      rw [← er]
    rw [ec]
    have kp1 : Kp [nd] st0 st1 := kp.trans (kp_aft a1) fun i hi _ => hi
    refine comp_rolls (k := k) st0 hn hh j (i + 1) (c ++ [r.toNat]) _ (by simp; omega) (fun x hx => ?_) (set_at e1) (dice_keep (M := [h]) hd1 (Kp.set (by simp)) (by simp; exact fun z => hne z.symm)) ⟨by rw [List.length_set]; exact kp1.1, fun q hq1 hq2 => ?_⟩ hq
    · rcases List.mem_append.mp hx with hx | hx
      · exact hc x hx
      · simp at hx
        omega
    · rw [List.getElem?_set_ne (by omega)]
      exact kp1.2 q hq1 hq2
theorem drXc_ok {st : Store} {L : LP} {M : LL} {A : Dk} {n nd k : Nat} {a1 a2 a3 a4 a5 a6 a7 a8 a9 aa ab ac ad' ae : Option PV} {D : EndP} (I : Inv mg st nd L M A n (k + 6))
    (h : ∀ c st', c.length ≤ 5 → (∀ x ∈ c, x < 9) → Inv mg st' nd L M A n k → D.nx [some (.hd nd), a1, a2, a3, a4, a5, a6, a7, a8, some (cTup c), aa, ab, ac, ad', ae] st') :
    drXc K mg D [some (.hd nd), a1, a2, a3, a4, a5, a6, a7, a8, a9, aa, ab, ac, ad', ae] st := by
  simp only [drXc, sLcI, sIRng1, sRet, sSeq, sAsg, sIfS, sSkip, sAsgG, sDrop, sRaise, sOp, sCB, sCons, sNil, sVar, sC, sTup, sNeg, sNot, sTest, sNotT, sAndT, sOrT, sAnd, sOr, sIf, sChain, sCall, ini, endOf, kName, kTup2, kTup3, oAdd, oI, oI0, oIs, oType, tyName, isNon_non, isNon_tup, isNon_int, atI_0, atI_1, atI_n, eq2_ii, ne2_ii, List.map_cons, List.map_nil, List.length_cons, List.length_nil, List.cons_append, List.nil_append, List.append_nil, List.replicate_succ, List.replicate_zero, List.getElem?_cons_zero, List.getElem?_cons_succ, List.set_cons_zero, List.set_cons_succ, Bool.false_eq_true, decide_true, decide_false, Bool.not_true, Bool.not_false, ↓reduceIte, Nat.reduceAdd, Nat.reduceSub, Nat.zero_add, Option.isSome, true_and, sAtt, sSetAtt, sMeth, sMake, wipeE]
  refine ⟨nd, k + 5, 6, rfl, I.d, by decide, b_lt (by decide) (by decide), fun r st1 r0 r1 hd1 a1' => ?_⟩
  have I1 := I.dice (kp_aft a1') hd1
  refine ⟨⟨by omega, by omega⟩, ?_⟩
  have hlow : nd < st1.length := by
    obtain ⟨x, y, z, e, _⟩ := hd1
    exact lt_of e
  have := comp_rolls (mg := mg) (nd := nd) (h := st1.length) (k := k) (v1 := a1) (v2 := a2) (v3 := a3) (v4 := a4) (v5 := a5) (v6 := a6) (v7 := a7) (v8 := a8) (v9 := a9) (va := aa) (vb := ab) (vc := ac) (vd := ad') (P := fun v st' => oTuple [v] st' fun w st2 => D.nx [some (.hd nd), a1, a2, a3, a4, a5, a6, a7, a8, some w, aa, ab, ac, ad', ae] st2) st1 hlow (Nat.le_refl _) r.toNat 0 [] (st1 ++ [Ob.lst []]) (by simp; omega) (fun x hx => by cases hx) (get_end _ _) (dice_mono (dice_keep hd1 (Kp.ext (M := [])) (fun h => by cases h)) (by omega)) Kp.ext (fun (c' : List Nat) st' hc hb e hd kp => by
    simp only [oTuple, e]
    exact h c' st' hc hb (I1.dice kp hd))
  exact this
theorem drXl_ok {st : Store} {L : LP} {M : LL} {A : Dk} {n nd k : Nat} {pw : Option Nat} {c : List Nat} {a2 a3 a4 a7 a8 aa ab ac ad' ae : Option PV} {D : EndP} (I : Inv mg st nd L M A n k) (hn : n ≤ 100) (hc : c.length ≤ 5) (hb : ∀ x ∈ c, x < 9) (hpw : ∀ j, pw = some j → j ≤ 1000000)
    (h : ∀ L' M' A' st', Inv mg st' nd L' M' A' (n + 1) k → D.nx [some (.hd nd), some (pwP pw), a2, a3, a4, some (.oh L'.d), some (.hd M'.o), a7, a8, some (cTup c), aa, ab, ac, ad', ae] st') :
    drXl K mg D [some (.hd nd), some (pwP pw), a2, a3, a4, some (.oh L.d), some (.hd M.o), a7, a8, some (cTup c), aa, ab, ac, ad', ae] st := by
  have hb40 : ∀ x ∈ c, x < 2 ^ 40 := fun x hx => Nat.lt_of_lt_of_le (hb x hx) (by decide)
  have nb : ¬ badP (pwP pw) := by
    rintro ⟨j, e, hj, _⟩
    cases pw with
    | none => cases e
    | some q =>
      simp only [pwP] at e
      cases e
      have := hpw q rfl
      omega
  simp only [drXl, sMethK, sRet, sSeq, sAsg, sIfS, sSkip, sAsgG, sDrop, sRaise, sOp, sCB, sCons, sNil, sVar, sC, sTup, sNeg, sNot, sTest, sNotT, sAndT, sOrT, sAnd, sOr, sIf, sChain, sCall, ini, endOf, kName, kTup2, kTup3, oAdd, oI, oI0, oIs, oType, tyName, isNon_non, isNon_tup, isNon_int, atI_0, atI_1, atI_n, eq2_ii, ne2_ii, List.map_cons, List.map_nil, List.length_cons, List.length_nil, List.cons_append, List.nil_append, List.append_nil, List.replicate_succ, List.replicate_zero, List.getElem?_cons_zero, List.getElem?_cons_succ, List.set_cons_zero, List.set_cons_succ, Bool.false_eq_true, decide_true, decide_false, Bool.not_true, Bool.not_false, ↓reduceIte, Nat.reduceAdd, Nat.reduceSub, Nat.zero_add, Option.isSome, true_and, sAtt, sSetAtt, sMeth, sMake, disk_at I.R.d]
  refine ⟨rfl, L, A, n, cTup c, pwP pw, rfl, I.R, I.W, fine9 hb, (fun l e => by cases e; rw [List.length_map]; omega), ?_, ?_, ?_⟩
  · intro z
    rw [cho9 hb] at z
    cases z
  · intro _ z
    exact absurd z nb
  · intro _ _
    refine ⟨c, pw, rfl, hb40, rfl, hpw, fun ys hp hs L' st1 R1 hl1 kp1 => ?_⟩
    refine ⟨M, A, n, c, pw, rfl, I.Q.keep kp1 (fun _ _ h => by cases h), I.W, by omega, hb40, fun zs hp2 hs2 M' st2 Q2 hl2 kp2 => ?_⟩
    have e := sorted_one (hp.trans hp2.symm) hs hs2
    subst e
    have R2 := R1.keep kp2 (fun _ _ h => by cases h)
    have low1 := R1.low
    have hnd : nd < st.length := by
      obtain ⟨x, y, z, e, _⟩ := I.d
      exact lt_of e
    have h1 := kp1.1
    simp only [kTup2]
    refine ⟨by decide, ?_⟩
    refine h L' M' _ st2 ⟨R2, Q2, I.W.lost hn hpw hp, I.z.lost hp, dice_keep (dice_keep I.d kp1 (fun h => by cases h)) kp2 (fun h => by cases h), fun hi => ?_, fun hi => ?_, fun i hi hi2 => ?_⟩
    · have := hl1 _ hi; omega
    · have := hl2 _ hi; omega
    · have := low1 _ hi
      have := hl2 _ hi2
      omega
end K5
set_option Elab.async false
set_option linter.all false
set_option maxRecDepth 100000
set_option maxHeartbeats 400000
namespace K5
open PySem PySem.Spec PyProof.Rows L2 Sm Wm Cm Kt Tm
variable {K : PySem.W.Frag} {mg : Str → Option Value}
theorem okV_dat {v : PV} {st : Store} (h : okV v) : ∃ d, dat st v = some d ∧ SeqAt.shaped d = true := by
  cases v <;> first | exact h.elim | skip
  · rename_i i
    refine ⟨.int i, rfl, ?_⟩
    have : i = 5 := h
    subst this
    decide +kernel
  · rename_i x
    refine ⟨.str x, rfl, ?_⟩
    unfold SeqAt.shaped
    rw [Bool.and_eq_true]
    exact ⟨h.2, by simp [PyData.depth]⟩
theorem eq_any {v w : PV} {st : Store} {P : Sm.PK} (hv : okV v) (hw : okV w) (h : ∀ b, P (.bl b) st) : oEq2 v w st P := by
  obtain ⟨d, e1, s1⟩ := okV_dat (st := st) hv
  obtain ⟨d2, e2, s2⟩ := okV_dat (st := st) hw
  unfold oEq2
  split
  · exact h _
  · show oEq v w st P
    unfold oEq
    rw [e1, e2]
    exact ⟨s1, s2, h _⟩
theorem ne_any {v w : PV} {st : Store} {P : Sm.PK} (hv : okV v) (hw : okV w) (h : ∀ b, P (.bl b) st) : oNe2 v w st P := by
  obtain ⟨d, e1, s1⟩ := okV_dat (st := st) hv
  obtain ⟨d2, e2, s2⟩ := okV_dat (st := st) hw
  unfold oNe2
  split
  · exact h _
  · show oNe v w st P
    unfold oNe
    rw [e1, e2]
    exact ⟨s1, s2, h _⟩
theorem okW5 : okW (.int 5) := ⟨rfl, fun x e => (by cases e), fun e => by cases e⟩
theorem okW_lit {x : Str} (h1 : x.length ≤ 20) (h2 : PyData.strOk x = true) (h3 : textB (.str x) = true) (h4 : x ≠ "zz") : okW (.str x) := ⟨⟨h1, h2⟩, fun y e => h3, fun e => h4 (PV.str.inj e)⟩
theorem drN_ok {st : Store} {L : LP} {M : LL} {A : Dk} {n nd k : Nat} {v : PV} {a1 a2 a3 a4 a5 a6 a7 a9 aa ab ac ad' ae : Option PV} {D : EndP} (I : Inv mg st nd L M A n (k + 2)) (hv : okW v)
    (h : ∀ v st', okW v → Inv mg st' nd L M A n k → D.nx [some (.hd nd), a1, a2, a3, a4, a5, a6, a7, some v, a9, aa, ab, ac, ad', ae] st') :
    drN K mg D [some (.hd nd), a1, a2, a3, a4, a5, a6, a7, some v, a9, aa, ab, ac, ad', ae] st := by
  simp only [drN, sLst, sRet, sSeq, sAsg, sIfS, sSkip, sAsgG, sDrop, sRaise, sOp, sCB, sCons, sNil, sVar, sC, sTup, sNeg, sNot, sTest, sNotT, sAndT, sOrT, sAnd, sOr, sIf, sChain, sCall, ini, endOf, kName, kTup2, kTup3, oAdd, oI, oI0, oIs, oType, tyName, isNon_non, isNon_tup, isNon_int, atI_0, atI_1, atI_n, eq2_ii, ne2_ii, List.map_cons, List.map_nil, List.length_cons, List.length_nil, List.cons_append, List.nil_append, List.append_nil, List.replicate_succ, List.replicate_zero, List.getElem?_cons_zero, List.getElem?_cons_succ, List.set_cons_zero, List.set_cons_succ, Bool.false_eq_true, decide_true, decide_false, Bool.not_true, Bool.not_false, ↓reduceIte, Nat.reduceAdd, Nat.reduceSub, Nat.zero_add, Option.isSome, true_and, sAtt, sSetAtt, sMeth, sMake]
  refine ⟨nd, k + 1, 12, rfl, I.d, by decide, b_lt (by decide) (by decide), fun r st1 r0 r1 hd1 a1' => ?_⟩
  have I1 := I.dice (kp_aft a1') hd1
  simp only [eq2_ii]
  by_cases hr : r = 0
  · simp only [hr, decide_true]
    refine ⟨by decide, nd, k, _, rfl, hd1, by simp, by decide, fun x hx st2 hd2 a2' => ?_⟩
    refine h x st2 ?_ (I1.dice (kp_aft a2') hd2)
    simp only [List.mem_cons, List.not_mem_nil, or_false] at hx
    rcases hx with rfl | rfl | rfl | rfl
    · exact okW_lit (by decide +kernel) (by decide +kernel) (by decide +kernel) (by decide +kernel)
    · exact okW5
    · exact okW_lit (by decide +kernel) (by decide +kernel) (by decide +kernel) (by decide +kernel)
    · exact okW_lit (by decide +kernel) (by decide +kernel) (by decide +kernel) (by decide +kernel)
  · simp only [decide_eq_false hr]
    exact h v st1 hv (I1.mono (Nat.le_succ k))
theorem drM_ok {st : Store} {L : LP} {M : LL} {A : Dk} {n nd k : Nat} {a1 a2 a3 a4 a5 a6 a7 a8 a9 aa ab ac ad' ae : Option PV} {D : EndP} (I : Inv mg st nd L M A n (k + 2))
    (h : ∀ w st', okW w → Inv mg st' nd L M A n k → D.nx [some (.hd nd), a1, a2, a3, a4, a5, a6, a7, a8, a9, some w, ab, ac, ad', ae] st') :
    drM K mg D [some (.hd nd), a1, a2, a3, a4, a5, a6, a7, a8, a9, aa, ab, ac, ad', ae] st := by
  simp only [drM, sLst, sRet, sSeq, sAsg, sIfS, sSkip, sAsgG, sDrop, sRaise, sOp, sCB, sCons, sNil, sVar, sC, sTup, sNeg, sNot, sTest, sNotT, sAndT, sOrT, sAnd, sOr, sIf, sChain, sCall, ini, endOf, kName, kTup2, kTup3, oAdd, oI, oI0, oIs, oType, tyName, isNon_non, isNon_tup, isNon_int, atI_0, atI_1, atI_n, eq2_ii, ne2_ii, List.map_cons, List.map_nil, List.length_cons, List.length_nil, List.cons_append, List.nil_append, List.append_nil, List.replicate_succ, List.replicate_zero, List.getElem?_cons_zero, List.getElem?_cons_succ, List.set_cons_zero, List.set_cons_succ, Bool.false_eq_true, decide_true, decide_false, Bool.not_true, Bool.not_false, ↓reduceIte, Nat.reduceAdd, Nat.reduceSub, Nat.zero_add, Option.isSome, true_and, sAtt, sSetAtt, sMeth, sMake]
  refine ⟨nd, k + 1, 12, rfl, I.d, by decide, b_lt (by decide) (by decide), fun r st1 r0 r1 hd1 a1' => ?_⟩
  have I1 := I.dice (kp_aft a1') hd1
  simp only [oI0]
  by_cases hr : 0 < r
  · rw [decide_eq_true hr]
    refine ⟨by decide, nd, k, _, rfl, hd1, by simp, by decide, fun x hx st2 hd2 a2' => ?_⟩
    refine h x st2 ?_ (I1.dice (kp_aft a2') hd2)
    simp only [List.mem_cons, List.not_mem_nil, or_false] at hx
    rcases hx with rfl | rfl | rfl | rfl <;> exact okW_lit (by decide +kernel) (by decide +kernel) (by decide +kernel) (by decide +kernel)
  · rw [decide_eq_false hr]
    exact h _ st1 okW5 (I1.mono (Nat.le_succ k))
theorem drR_ok {st : Store} {L : LP} {M : LL} {A : Dk} {n nd k : Nat} {x : Str} {v w : PV} {a1 a2 a3 a4 a5 a6 a9 ab ac ad' ae : Option PV} {D : EndP} (I : Inv mg st nd L M A n (k + 1)) (hv : okW v) (hw : okW w)
    (h : ∀ w ab st', okW w → Inv mg st' nd L M A n k → D.nx [some (.hd nd), a1, a2, a3, a4, a5, a6, some (.str x), some v, a9, some w, ab, ac, ad', ae] st') :
    drR K mg D [some (.hd nd), a1, a2, a3, a4, a5, a6, some (.str x), some v, a9, some w, ab, ac, ad', ae] st := by
  simp only [drR, sRet, sSeq, sAsg, sIfS, sSkip, sAsgG, sDrop, sRaise, sOp, sCB, sCons, sNil, sVar, sC, sTup, sNeg, sNot, sTest, sNotT, sAndT, sOrT, sAnd, sOr, sIf, sChain, sCall, ini, endOf, kName, kTup2, kTup3, oAdd, oI, oI0, oIs, oType, tyName, isNon_non, isNon_tup, isNon_int, atI_0, atI_1, atI_n, eq2_ii, ne2_ii, List.map_cons, List.map_nil, List.length_cons, List.length_nil, List.cons_append, List.nil_append, List.append_nil, List.replicate_succ, List.replicate_zero, List.getElem?_cons_zero, List.getElem?_cons_succ, List.set_cons_zero, List.set_cons_succ, Bool.false_eq_true, decide_true, decide_false, Bool.not_true, Bool.not_false, ↓reduceIte, Nat.reduceAdd, Nat.reduceSub, Nat.zero_add, Option.isSome, true_and, sAtt, sSetAtt, sMeth, sMake, eq2_ss]
  by_cases hx : x = "rename"
  · rw [decide_eq_true hx]
    refine ⟨nd, k, 10, rfl, I.d, by decide, b_lt (by decide) (by decide), fun r st1 r0 r1 hd1 a1' => ?_⟩
    have I1 := I.dice (kp_aft a1') hd1
    obtain ⟨h1, h2, h3⟩ := nm_ok r r0 r1
    simp only [oStr]
    refine ⟨h2, h3, ?_⟩
    refine eq_any h1.1 hv.1 fun b => ?_
    cases b with
    | true => exact h _ _ st1 (okW_lit (by decide +kernel) (by decide +kernel) (by decide +kernel) (by decide +kernel)) I1
    | false =>
      refine ne_any hw.1 okW5.1 fun b => ?_
      cases b with
      | true => exact h _ _ st1 h1 I1
      | false => exact h _ _ st1 (okW_lit (by decide +kernel) (by decide +kernel) (by decide +kernel) (by decide +kernel)) I1
  · rw [decide_eq_false hx]
    exact h w ab st hw (I.mono (Nat.le_succ k))
def okO : Out → Prop
  | .unk v => okV v
  | _ => True
theorem step_out {A : Dk} {v w : PV} {a : Deed} {o : Out} (hv : okV v) (h : K5.step A v w a = .inl o) : okO o := by
  cases a <;> simp only [K5.step, opAppend, opSync, opNames, opRemove, opRename] at h <;> (repeat' split at h) <;> first | (cases h; first | exact hv | exact trivial) | cases h
/-- what both tell -/
def told (e : PV) : Prop := e = toldE ∨ ∃ o : Out, okO o ∧ e = o.enc
theorem drS_ok {st : Store} {L : LP} {M : LL} {A : Dk} {n nd k : Nat} {v w : PV} {a : Deed} {a1 a2 a3 a4 a9 ab ac ad' ae : Option PV} {D : EndP} (I : Inv mg st nd L M A n k) (hn : n ≤ 100) (hv : okW v) (hw : okW w)
    (h : ∀ e L' M' A' m st', told e → L'.d = L.d → M'.o = M.o → m ≤ n + 1 → Inv mg st' nd L' M' A' m k → D.nx [some (.hd nd), a1, a2, a3, a4, some (.oh L.d), some (.hd M.o), some (.str a.str), some v, a9, some w, ab, some e, some e, ae] st') :
    drS K mg D [some (.hd nd), a1, a2, a3, a4, some (.oh L.d), some (.hd M.o), some (.str a.str), some v, a9, some w, ab, ac, ad', ae] st := by
  simp only [drS, sPar, sRet, sSeq, sAsg, sIfS, sSkip, sAsgG, sDrop, sRaise, sOp, sCB, sCons, sNil, sVar, sC, sTup, sNeg, sNot, sTest, sNotT, sAndT, sOrT, sAnd, sOr, sIf, sChain, sCall, ini, endOf, kName, kTup2, kTup3, oAdd, oI, oI0, oIs, oType, tyName, isNon_non, isNon_tup, isNon_int, atI_0, atI_1, atI_n, eq2_ii, ne2_ii, List.map_cons, List.map_nil, List.length_cons, List.length_nil, List.cons_append, List.nil_append, List.append_nil, List.replicate_succ, List.replicate_zero, List.getElem?_cons_zero, List.getElem?_cons_succ, List.set_cons_zero, List.set_cons_succ, Bool.false_eq_true, decide_true, decide_false, Bool.not_true, Bool.not_false, ↓reduceIte, Nat.reduceAdd, Nat.reduceSub, Nat.zero_add, Option.isSome, true_and, sAtt, sSetAtt, sMeth, sMake]
  have hnd : nd < st.length := by
    obtain ⟨x, y, z, e, _⟩ := I.d
    exact lt_of e
  have lowL := I.R.low
  have lowM := I.Q.low
  refine ⟨by decide, L, A, n, v, w, a, rfl, I.R, I.W, hn, hv.1, hw.1, hw.2.1, ?_⟩
  cases hs : K5.step A v w a with
  | inl o =>
    intro st1 kp1
    have I1 := I.keep kp1
    refine ⟨by decide, M, A, n, v, w, a, rfl, I1.Q, I1.W, hn, hv.1, hw.1, ?_⟩
    rw [hs]
    intro st2 kp2
    exact h o.enc L M A n st2 (.inr ⟨o, step_out hv.1 hs, rfl⟩) rfl rfl (by omega) (I1.keep kp2)
  | inr A' =>
    intro L' st1 R1 eL nL kp1
    have Q1 := I.Q.keep kp1 (fun i hi hi2 => I.dj i hi2 hi)
    have d1 := dice_keep I.d kp1 I.nL
    have low1 := R1.low
    refine ⟨by decide, M, A, n, v, w, a, rfl, Q1, I.W, hn, hv.1, hw.1, ?_⟩
    rw [hs]
    intro M' st2 Q2 eM nM kp2
    have djL : ∀ i ∈ L'.hs, i ∉ M.hs := fun i hi hi2 => by
      rcases nL i hi with h | h
      · exact I.dj i h hi2
      · have := lowM i hi2; omega
    have h1 := kp1.1
    refine h toldE L' M' A' (n + 1) st2 (.inl rfl) eL eM (Nat.le_refl _) ⟨R1.keep kp2 djL, Q2, I.W.step hn hv.1 hw.1 hs, I.z.step hv hw hs, dice_keep d1 kp2 I.nM, fun hi => ?_, fun hi => ?_, fun i hi hi2 => ?_⟩
    · rcases nL _ hi with h | h
      · exact I.nL h
      · omega
    · rcases nM _ hi with h | h
      · exact I.nM h
      · omega
    · rcases nM _ hi2 with h | h
      · exact djL i hi h
      · have := low1 i hi; omega
theorem shp_unk {v : PV} {st : Store} {d : PyData} (hv : okV v) (e : dat0 v = some d) : SeqAt.shaped (.tuple [.str "unknown", d]) = true := by
  cases v <;> first | exact hv.elim | skip
  · rename_i i
    have : i = 5 := hv
    subst this
    cases e
    decide +kernel
  · rename_i x
    cases e
    exact shp_t (l := [Str.ofString "unknown", x]) fun y hy => by
      simp only [List.mem_cons, List.not_mem_nil, or_false] at hy
      rcases hy with rfl | rfl
      · decide +kernel
      · exact hv.2
theorem drC_ok {st : Store} {e : PV} {nd : Nat} {a1 a2 a3 a4 a5 a6 a7 a8 a9 aa ab ae : Option PV} {D : EndP} (he : told e)
    (h : D.nx [some (.hd nd), a1, a2, a3, a4, a5, a6, a7, a8, a9, aa, ab, some e, some e, ae] st) :
    drC K mg D [some (.hd nd), a1, a2, a3, a4, a5, a6, a7, a8, a9, aa, ab, some e, some e, ae] st := by
  rcases he with rfl | ⟨o, ho, rfl⟩
  · simp only [drC, toldE, sRet, sSeq, sAsg, sIfS, sSkip, sAsgG, sDrop, sRaise, sOp, sCB, sCons, sNil, sVar, sC, sTup, sNeg, sNot, sTest, sNotT, sAndT, sOrT, sAnd, sOr, sIf, sChain, sCall, ini, endOf, kName, kTup2, kTup3, oAdd, oI, oI0, oIs, oType, tyName, isNon_non, isNon_tup, isNon_int, atI_0, atI_1, atI_n, eq2_ii, ne2_ii, List.map_cons, List.map_nil, List.length_cons, List.length_nil, List.cons_append, List.nil_append, List.append_nil, List.replicate_succ, List.replicate_zero, List.getElem?_cons_zero, List.getElem?_cons_succ, List.set_cons_zero, List.set_cons_succ, Bool.false_eq_true, decide_true, decide_false, Bool.not_true, Bool.not_false, ↓reduceIte, Nat.reduceAdd, Nat.reduceSub, Nat.zero_add, Option.isSome, true_and, sAtt, sSetAtt, sMeth, sMake, oIx, oNe2]
    exact h
  · have ne : oNe2 o.enc o.enc st = fun P => oNe o.enc o.enc st P := by
      funext P
      cases o <;> rfl
    have hself : ∀ P : PK, P (.bl false) st → oNe2 o.enc o.enc st P := by
      intro P hp
      cases o with
      | name => exact ne_refl (d := .tuple [.str "name"]) rfl (by decide +kernel) (fun s z => by cases z) hp
      | op => exact ne_refl (d := .tuple [.str "operation"]) rfl (by decide +kernel) (fun s z => by cases z) hp
      | unk v =>
        have ho2 : okV v := ho
        have hd0 : ∃ d, dat0 v = some d := by
          clear ho
          cases v <;> first | exact ho2.elim | exact ⟨_, rfl⟩
        obtain ⟨d, hd⟩ := hd0
        refine ne_refl (d := .tuple [.str "unknown", d]) ?_ (shp_unk (st := st) ho hd) (fun s z => by cases z) hp
        show (dats0 [.str "unknown", v]).map PyData.tuple = _
        simp only [dats0, dat0, hd, Option.map_some]
      | many m => exact ne_refl (d := .tuple [.str "many", .int (m : Nat)]) rfl (by simp [SeqAt.shaped, PyData.canLay0, PyData.canLayAll0, PyData.depth, PyData.depthAll]; decide +kernel) (fun s z => by cases z) hp
      | lost m => exact ne_refl (d := .tuple [.str "lost", .int (m : Nat)]) rfl (by simp [SeqAt.shaped, PyData.canLay0, PyData.canLayAll0, PyData.depth, PyData.depthAll]; decide +kernel) (fun s z => by cases z) hp
    have hd : ∃ (s : Str) (r : List PV), o.enc = .tup (.str s :: r) ∧ s ≠ "told" := by
      cases o
      · exact ⟨_, _, rfl, by decide +kernel⟩
      · exact ⟨_, _, rfl, by decide +kernel⟩
      · exact ⟨_, _, rfl, by decide +kernel⟩
      · exact ⟨_, _, rfl, by decide +kernel⟩
      · exact ⟨_, _, rfl, by decide +kernel⟩
    obtain ⟨s, r, es, hs⟩ := hd
    have ix : ∀ (st : Store) (P : PK), oIx o.enc (.int 0) st P = P (.str s) st := by
      intro st P
      rw [es]
      simp only [oIx, atI_0]
    have ness : ∀ (a b : Str) (st : Store) (P : PK), oNe2 (.str a) (.str b) st P = P (.bl (!decide (a = b))) st := fun _ _ _ _ => rfl
    generalize hF : oNe2 o.enc o.enc st = F at hself
    simp only [drC, sRet, sSeq, sAsg, sIfS, sSkip, sAsgG, sDrop, sRaise, sOp, sCB, sCons, sNil, sVar, sC, sTup, sNeg, sNot, sTest, sNotT, sAndT, sOrT, sAnd, sOr, sIf, sChain, sCall, ini, endOf, kName, kTup2, kTup3, oAdd, oI, oI0, oIs, oType, tyName, isNon_non, isNon_tup, isNon_int, atI_0, atI_1, atI_n, eq2_ii, ne2_ii, List.map_cons, List.map_nil, List.length_cons, List.length_nil, List.cons_append, List.nil_append, List.append_nil, List.replicate_succ, List.replicate_zero, List.getElem?_cons_zero, List.getElem?_cons_succ, List.set_cons_zero, List.set_cons_succ, Bool.false_eq_true, decide_true, decide_false, Bool.not_true, Bool.not_false, ↓reduceIte, Nat.reduceAdd, Nat.reduceSub, Nat.zero_add, Option.isSome, true_and, sAtt, sSetAtt, sMeth, sMake, ix, ness, decide_true, Bool.not_true, decide_eq_false hs, Bool.not_false]
    rw [hF]
    refine hself _ ?_
    exact h
theorem drK_ok {st : Store} {L : LP} {M : LL} {A : Dk} {n nd k : Nat} {a1 a2 a3 a4 a7 a8 a9 aa ab ac ad' ae : Option PV} {D : EndP} (I : Inv mg st nd L M A n k)
    (h : ∀ st', Inv mg st' nd L M A n k → D.nx [some (.hd nd), a1, a2, a3, a4, some (.oh L.d), some (.hd M.o), a7, a8, a9, aa, ab, ac, ad', ae] st') :
    drK K mg D [some (.hd nd), a1, a2, a3, a4, some (.oh L.d), some (.hd M.o), a7, a8, a9, aa, ab, ac, ad', ae] st := by
  simp only [drK, sRet, sSeq, sAsg, sIfS, sSkip, sAsgG, sDrop, sRaise, sOp, sCB, sCons, sNil, sVar, sC, sTup, sNeg, sNot, sTest, sNotT, sAndT, sOrT, sAnd, sOr, sIf, sChain, sCall, ini, endOf, kName, kTup2, kTup3, oAdd, oI, oI0, oIs, oType, tyName, isNon_non, isNon_tup, isNon_int, atI_0, atI_1, atI_n, eq2_ii, ne2_ii, List.map_cons, List.map_nil, List.length_cons, List.length_nil, List.cons_append, List.nil_append, List.append_nil, List.replicate_succ, List.replicate_zero, List.getElem?_cons_zero, List.getElem?_cons_succ, List.set_cons_zero, List.set_cons_succ, Bool.false_eq_true, decide_true, decide_false, Bool.not_true, Bool.not_false, ↓reduceIte, Nat.reduceAdd, Nat.reduceSub, Nat.zero_add, Option.isSome, true_and, sAtt, sSetAtt, sMeth, sMake]
  exact ⟨L, M, A, n, rfl, I.R, I.Q, I.W, I.z.cur, fun st' kp => h st' (I.keep kp)⟩
end K5
set_option Elab.async false
set_option linter.all false
set_option maxRecDepth 100000
set_option maxHeartbeats 400000
namespace K5
open PySem PySem.Spec PyProof.Rows L2 Sm Wm Cm Kt Tm
variable {K : PySem.W.Frag} {mg : Str → Option Value}
theorem word_of {x : PV} (hx : x ∈ ([.str "append", .str "append", .str "append", .str "append", .str "sync", .str "names", .str "remove", .str "rename", .str "lost"] : List PV)) : x = .str "lost" ∨ ∃ a : Deed, x = .str a.str := by
  simp only [List.mem_cons, List.not_mem_nil, or_false] at hx
  rcases hx with rfl | rfl | rfl | rfl | rfl | rfl | rfl | rfl | rfl
  · exact .inr ⟨.append, rfl⟩
  · exact .inr ⟨.append, rfl⟩
  · exact .inr ⟨.append, rfl⟩
  · exact .inr ⟨.append, rfl⟩
  · exact .inr ⟨.sync, rfl⟩
  · exact .inr ⟨.names, rfl⟩
  · exact .inr ⟨.remove, rfl⟩
  · exact .inr ⟨.rename, rfl⟩
  · exact .inl rfl
theorem deed_not (a : Deed) : decide (a.str = Str.ofString "lost") = false := by cases a <;> decide +kernel
theorem drL_ok {st : Store} {L : LP} {M : LL} {A : Dk} {n nd k : Nat} {a1 a3 a4 a7 a8 a9 aa ab ac ad' ae : Option PV} {D : EndP} (I : Inv mg st nd L M A n (k + 20)) (hn : n ≤ 100)
    (h : ∀ b1 b7 b8 b9 ba bb bc bd be L' M' A' m st', m ≤ n + 1 → Inv mg st' nd L' M' A' m k → D.nx [some (.hd nd), b1, some wds, a3, a4, some (.oh L'.d), some (.hd M'.o), b7, b8, b9, ba, bb, bc, bd, be] st') :
    drL K mg D [some (.hd nd), a1, some wds, a3, a4, some (.oh L.d), some (.hd M.o), a7, a8, a9, aa, ab, ac, ad', ae] st := by
  apply drL_go
  refine drP_ok (K := K) (mg := mg) (k := k + 18) I fun x v st1 hx hv I1 => ?_
  have tail : ∀ (b1 b7 b8 b9 ba bb bc bd be : Option PV) L' M' A' m st', m ≤ n + 1 → Inv mg st' nd L' M' A' m k → drK K mg D [some (.hd nd), b1, some wds, a3, a4, some (.oh L'.d), some (.hd M'.o), b7, b8, b9, ba, bb, bc, bd, be] st' :=
    fun b1 b7 b8 b9 ba bb bc bd be L' M' A' m st' hm I' => drK_ok (K := K) I' fun st2 I2 => h _ _ _ _ _ _ _ _ _ _ _ _ _ _ hm I2
  rcases word_of hx with rfl | ⟨a, rfl⟩
  · have go : drX K mg { D with nx := fun ρ s => drK K mg D ρ s } [some (.hd nd), a1, some wds, a3, a4, some (.oh L.d), some (.hd M.o), some (.str "lost"), some v, a9, aa, ab, ac, ad', ae] st1 := by
      apply drX_go
      refine drXc_ok (K := K) (mg := mg) (k := k + 12) I1 fun c st2 hc hb I2 => ?_
      refine drY_ok (K := K) (mg := mg) (k := k + 10) I2 fun pw st3 hpw I3 => ?_
      refine drXl_ok (K := K) (mg := mg) (k := k + 10) I3 hn hc hb hpw fun L' M' A' st4 I4 => ?_
      exact tail _ _ _ _ _ _ _ _ _ L' M' A' _ st4 (Nat.le_refl _) (I4.mono (by omega))
    generalize hX : drX K mg = X at go
    simp only [sSeq, sIfS, sTest, sOp, sVar, sC, List.getElem?_cons_succ, List.getElem?_cons_zero, eq2_ss, decide_true]
    exact go
  · have go : drD K mg { D with nx := fun ρ s => drK K mg D ρ s } [some (.hd nd), a1, some wds, a3, a4, some (.oh L.d), some (.hd M.o), some (.str a.str), some v, a9, aa, ab, ac, ad', ae] st1 := by
      unfold drD
      refine drN_ok (K := K) (mg := mg) (k := k + 16) I1 hv fun v st2 hv I2 => ?_
      refine drM_ok (K := K) (mg := mg) (k := k + 14) I2 fun w st3 hw I3 => ?_
      refine drR_ok (K := K) (mg := mg) (k := k + 13) I3 hv hw fun w bb st4 hw I4 => ?_
      refine drS_ok (K := K) (mg := mg) (k := k + 13) I4 hn hv hw fun e L' M' A' m st5 he eL eM hm I5 => ?_
      rw [← eL, ← eM]
      refine drC_ok (K := K) (mg := mg) he ?_
      exact tail _ _ _ _ _ _ _ _ _ L' M' A' _ st5 hm (I5.mono (by omega))
    generalize hX : drD K mg = X at go
    simp only [sSeq, sIfS, sTest, sOp, sVar, sC, List.getElem?_cons_succ, List.getElem?_cons_zero, eq2_ss, deed_not]
    exact go
theorem dr_loop {nd k : Nat} {D : EndP} {a4 : Option PV} (hq : ∀ b1 b3 b7 b8 b9 ba bb bc bd be L' M' A' m st', Inv mg st' nd L' M' A' m k → D.nx [some (.hd nd), b1, some wds, b3, a4, some (.oh L'.d), some (.hd M'.o), b7, b8, b9, ba, bb, bc, bd, be] st') :
    ∀ (j i n : Nat) (L : LP) (M : LL) (A : Dk) (st : Store) (b1 b3 b7 b8 b9 ba bb bc bd be : Option PV), n + j ≤ 100 → Inv mg st nd L M A n (k + 20 * j) → loopC any (kName 3) (drL K mg) D (upto (i : Nat) j) [some (.hd nd), b1, some wds, b3, a4, some (.oh L.d), some (.hd M.o), b7, b8, b9, ba, bb, bc, bd, be] st
  | 0, i, n, L, M, A, st, b1, b3, b7, b8, b9, ba, bb, bc, bd, be, hn, I => ⟨trivial, hq _ _ _ _ _ _ _ _ _ _ _ _ _ _ _ I⟩
  | j + 1, i, n, L, M, A, st, b1, b3, b7, b8, b9, ba, bb, bc, bd, be, hn, I => by
    refine ⟨trivial, ?_⟩
    rw [show ((i : Nat) : Int) + 1 = ((i + 1 : Nat) : Int) by omega]
    simp only [kName, List.set_cons_succ, List.set_cons_zero]
    refine drL_ok (K := K) (mg := mg) (k := k + 20 * j) (by rw [show k + 20 * j + 20 = k + 20 * (j + 1) by omega]; exact I) (by omega) fun b1 b7 b8 b9 ba bb bc bd be L' M' A' m st' hm I' => ?_
    exact dr_loop hq j (i + 1) m L' M' A' st' _ _ _ _ _ _ _ _ _ _ (by omega) I'
def drA (K : PySem.W.Frag) (mg : Str → Option Value) : SemS := (sAsg (sIf (sTest (sOp oEq2 (sCall (S__law_roll mg) [] (sCons (sVar 0) (sCons (sC (.int 2)) sNil))) (sC (.int 0)))) (sC .non) (sCall (S__law_roll mg) [] (sCons (sVar 0) (sCons (sC (.int 40)) sNil)))) 1)
def drB (K : PySem.W.Frag) (mg : Str → Option Value) : SemS := (sAsgG (sTup (sCons (sMakeK (ad mg "Disk") 0 1 (S_Disk___init__ mg) (fun vs zs => vs ++ zs) sNil (sCons (sVar 1) sNil)) (sCons (sCall (S__law_new mg) [] (sCons (sVar 1) sNil)) sNil))) (kTup2 5 6))
def drW (K : PySem.W.Frag) (mg : Str → Option Value) : SemS := (sAsg (sLst (sCons (sC (.str "append")) (sCons (sC (.str "append")) (sCons (sC (.str "append")) (sCons (sC (.str "append")) (sCons (sC (.str "sync")) (sCons (sC (.str "names")) (sCons (sC (.str "remove")) (sCons (sC (.str "rename")) (sCons (sC (.str "lost")) sNil)))))))))) 2)
theorem dr_go {D : EndP} {ρ : Sm.Env} {st : Store} (h : sSeq (drA K mg) (sSeq (drB K mg) (sSeq (drW K mg) (sSeq (sForI (sIRng1 (sOp oAdd (sC (.int 10)) (sCall (S__law_roll mg) [] (sCons (sVar 0) (sCons (sC (.int 31)) sNil))))) (kName 3) (drL K mg)) (drE K mg)))) D ρ st) : t__law_disks_right K mg D ρ st := h
theorem drA_ok {st : Store} {nd k : Nat} {a1 a2 a3 a4 a5 a6 a7 a8 a9 aa ab ac ad' ae : Option PV} {D : EndP} (hd : DiceAt nd (k + 2) st)
    (h : ∀ pw st', (∀ j, pw = some j → j ≤ 1000000) → DiceAt nd k st' → D.nx [some (.hd nd), some (pwP pw), a2, a3, a4, a5, a6, a7, a8, a9, aa, ab, ac, ad', ae] st') :
    drA K mg D [some (.hd nd), a1, a2, a3, a4, a5, a6, a7, a8, a9, aa, ab, ac, ad', ae] st := by
  simp only [drA, sRet, sSeq, sAsg, sIfS, sSkip, sAsgG, sDrop, sRaise, sOp, sCB, sCons, sNil, sVar, sC, sTup, sNeg, sNot, sTest, sNotT, sAndT, sOrT, sAnd, sOr, sIf, sChain, sCall, ini, endOf, kName, kTup2, kTup3, oAdd, oI, oI0, oIs, oType, tyName, isNon_non, isNon_tup, isNon_int, atI_0, atI_1, atI_n, eq2_ii, ne2_ii, List.map_cons, List.map_nil, List.length_cons, List.length_nil, List.cons_append, List.nil_append, List.append_nil, List.replicate_succ, List.replicate_zero, List.getElem?_cons_zero, List.getElem?_cons_succ, List.set_cons_zero, List.set_cons_succ, Bool.false_eq_true, decide_true, decide_false, Bool.not_true, Bool.not_false, ↓reduceIte, Nat.reduceAdd, Nat.reduceSub, Nat.zero_add, Option.isSome, true_and, sAtt, sSetAtt, sMeth, sMake]
  refine ⟨nd, k + 1, 2, rfl, hd, by decide, b_lt (by decide) (by decide), fun r st1 r0 r1 hd1 a1' => ?_⟩
  simp only [eq2_ii]
  by_cases hr : r = 0
  · simp only [hr, decide_true]
    exact h none st1 (fun j e => by cases e) (dice_mono hd1 (Nat.le_succ k))
  · simp only [decide_eq_false hr]
    refine ⟨nd, k, 40, rfl, hd1, by decide, b_lt (by decide) (by decide), fun q st2 q0 q1 hd2 a2' => ?_⟩
    have e : q = ((q.toNat : Nat) : Int) := by omega
    have := h (some q.toNat) st2 (fun j e2 => by cases e2; omega) hd2
    rw [e]
    exact this
theorem app_at (st l : Store) (n i : Nat) (h : n = st.length + i) : (st ++ l)[n]? = l[i]? := by
  subst h
  rw [List.getElem?_append_right (Nat.le_add_right ..), Nat.add_sub_cancel_left]
theorem drB_ok {st : Store} {nd k : Nat} {pw : Option Nat} {a2 a3 a4 a5 a6 a7 a8 a9 aa ab ac ad' ae : Option PV} {D : EndP} (hd : DiceAt nd k st) (hpw : ∀ j, pw = some j → j ≤ 1000000)
    (h : ∀ L M A st', Inv mg st' nd L M A 0 k → D.nx [some (.hd nd), some (pwP pw), a2, a3, a4, some (.oh L.d), some (.hd M.o), a7, a8, a9, aa, ab, ac, ad', ae] st') :
    drB K mg D [some (.hd nd), some (pwP pw), a2, a3, a4, a5, a6, a7, a8, a9, aa, ab, ac, ad', ae] st := by
  simp only [drB, sMakeK, sRet, sSeq, sAsg, sIfS, sSkip, sAsgG, sDrop, sRaise, sOp, sCB, sCons, sNil, sVar, sC, sTup, sNeg, sNot, sTest, sNotT, sAndT, sOrT, sAnd, sOr, sIf, sChain, sCall, ini, endOf, kName, kTup2, kTup3, oAdd, oI, oI0, oIs, oType, tyName, isNon_non, isNon_tup, isNon_int, atI_0, atI_1, atI_n, eq2_ii, ne2_ii, List.map_cons, List.map_nil, List.length_cons, List.length_nil, List.cons_append, List.nil_append, List.append_nil, List.replicate_succ, List.replicate_zero, List.getElem?_cons_zero, List.getElem?_cons_succ, List.set_cons_zero, List.set_cons_succ, Bool.false_eq_true, decide_true, decide_false, Bool.not_true, Bool.not_false, ↓reduceIte, Nat.reduceAdd, Nat.reduceSub, Nat.zero_add, Option.isSome, true_and, sAtt, sSetAtt, sMeth, sMake]
  refine ⟨st.length, pwP pw, rfl, get_end _ _, .inl ⟨pw, rfl, hpw, ?_⟩⟩
  have e1 : (st ++ [Ob.ins (ad mg "Disk") []] ++ [Ob.dct [], Ob.lst [.dh (st ++ [Ob.ins (ad mg "Disk") []]).length]]).set st.length (iDisk mg (pwP pw) 0 (.hd ((st ++ [Ob.ins (ad mg "Disk") []]).length + 1))) = st ++ [iDisk mg (pwP pw) 0 (.hd (st.length + 2)), Ob.dct [], Ob.lst [.dh (st.length + 1)]] := by
    simp [List.set_append]
  rw [e1]
  refine ⟨rfl, pwP pw, rfl, ?_⟩
  simp only [kTup2]
  have hnd : nd < st.length := by
    obtain ⟨x, y, z, e, _⟩ := hd
    exact lt_of e
  have e2 : (st ++ [iDisk mg (pwP pw) 0 (.hd (st.length + 2)), Ob.dct [], Ob.lst [.dh (st.length + 1)]]).length = st.length + 3 := by simp
  rw [e2, List.append_assoc]
  refine ⟨by decide, ?_⟩
  have I : Inv mg (st ++ ([iDisk mg (pwP pw) 0 (.hd (st.length + 2)), Ob.dct [], Ob.lst [.dh (st.length + 1)]] ++ [Ob.dct [], Ob.lst [], Ob.dct [], Ob.lst [.dh (st.length + 3), .hd (st.length + 3 + 1), .dh (st.length + 3 + 2), .int 0, pwP pw]])) nd ⟨st.length, st.length + 2, [st.length + 1], []⟩ ⟨st.length + 3 + 3, st.length + 3, st.length + 3 + 1, st.length + 3 + 2, []⟩ ⟨[], [], [], 0, pw⟩ 0 k := by
    refine ⟨⟨(by rw [app_at _ _ _ 0 (by show st.length = _; omega)]; rfl), (by rw [app_at _ _ _ 2 (by show st.length + 2 = _; omega)]; rfl), rfl, fun i q e => ?_, rfl, fun i q f e => (by simp at e), List.nodup_nil⟩, ⟨(by rw [app_at _ _ _ 6 (by show st.length + 3 + 3 = _; omega)]; rfl), (by rw [app_at _ _ _ 3 (by show st.length + 3 = _; omega)]; rfl), (by rw [app_at _ _ _ 4 (by show st.length + 3 + 1 = _; omega)]; rfl), (by rw [app_at _ _ _ 5 (by show st.length + 3 + 2 = _; omega)]; rfl), rfl, fun i q f e => (by simp at e), List.nodup_nil, by show st.length + 3 ≠ st.length + 3 + 2; omega⟩, ⟨by omega, ⟨by simp, by simp, fun p hp => (by cases hp)⟩, by simp, by simp, by simp, fun p hp => ⟨by simp, hpw p hp⟩, fun f hf => (by cases hf)⟩, ⟨fun p hp => (by cases hp), fun j hj => (by cases hj)⟩, dice_keep (M := []) hd Kp.ext (fun h => (by cases h)), ?_, ?_, ?_⟩
    · cases i with
      | zero =>
        simp at e
        subst e
        rw [app_at _ _ _ 1 rfl]
        rfl
      | succ i => simp at e
    · simp [LP.hs]; omega
    · simp [LL.hs]; omega
    · simp [LP.hs, LL.hs]; omega
  exact h _ _ _ _ I
theorem p__law_disks_right (E : ExmM K mg) : ∀ pvs st Q PX, S__law_disks_right mg pvs st Q PX → t__law_disks_right K mg (endOf Q PX) (ini N__law_disks_right pvs) st := by
  rintro pvs st Q PX ⟨nd, rfl, hd, hq⟩
  apply dr_go
  have main : ∀ D : EndP, (∀ st', D.rt (.bl true) st') → sSeq (drA K mg) (sSeq (drB K mg) (sSeq (drW K mg) (sSeq (sForI (sIRng1 (sOp oAdd (sC (.int 10)) (sCall (S__law_roll mg) [] (sCons (sVar 0) (sCons (sC (.int 31)) sNil))))) (kName 3) (drL K mg)) (drE K mg)))) D [some (.hd nd), none, none, none, none, none, none, none, none, none, none, none, none, none, none] st := by
    intro D hD
    refine drA_ok (K := K) (mg := mg) (k := 99998) hd fun pw st1 hpw hd1 => ?_
    refine drB_ok (K := K) (mg := mg) (k := 99998) hd1 hpw fun L M A st2 I => ?_
    generalize hL : drL K mg = X
    generalize hE : drE K mg = Y
    simp only [sSeq, sForI, sIRng1, drW, sLst, sRet, sSeq, sAsg, sIfS, sSkip, sAsgG, sDrop, sRaise, sOp, sCB, sCons, sNil, sVar, sC, sTup, sNeg, sNot, sTest, sNotT, sAndT, sOrT, sAnd, sOr, sIf, sChain, sCall, ini, endOf, kName, kTup2, kTup3, oAdd, oI, oI0, oIs, oType, tyName, isNon_non, isNon_tup, isNon_int, atI_0, atI_1, atI_n, eq2_ii, ne2_ii, List.map_cons, List.map_nil, List.length_cons, List.length_nil, List.cons_append, List.nil_append, List.append_nil, List.replicate_succ, List.replicate_zero, List.getElem?_cons_zero, List.getElem?_cons_succ, List.set_cons_zero, List.set_cons_succ, Bool.false_eq_true, decide_true, decide_false, Bool.not_true, Bool.not_false, ↓reduceIte, Nat.reduceAdd, Nat.reduceSub, Nat.zero_add, Option.isSome, true_and, sAtt, sSetAtt, sMeth, sMake]
    refine ⟨by decide, nd, 99997, 31, rfl, I.d, by decide, b_lt (by decide) (by decide), fun r st3 r0 r1 hd3 a3 => ?_⟩
    have I3 := I.dice (kp_aft a3) hd3
    refine ⟨⟨by omega, by omega⟩, ?_⟩
    rw [← hL, ← hE]
    have er : ((10 + r).toNat) = 10 + r.toNat := by omega
    rw [er]
    have h40 : r.toNat ≤ 30 := by omega
    refine dr_loop (K := K) (mg := mg) (nd := nd) (k := 1000) (a4 := none) (fun b1 b3 b7 b8 b9 ba bb bc bd be L' M' A' m st' I' => ?_) (10 + r.toNat) 0 0 L M A st3 _ _ _ _ _ _ _ _ _ _ (by omega) (I3.mono (by omega))
    refine drE_ok (K := K) (mg := mg) (k := 999) E I'.R I'.W ?_ I'.d I'.nL hD
    show getT A'.cur "zz" = none
    rw [getT_none]
    intro hm2
    obtain ⟨p, hp, e⟩ := List.mem_map.mp hm2
    exact I'.z.cur p hp e
  exact main (endOf Q PX) hq
end K5
set_option Elab.async false
set_option linter.all false
set_option maxRecDepth 100000
set_option maxHeartbeats 400000
namespace K5
open PySem PySem.Spec PyProof.Rows L2 Sm Wm Cm Kt Tm
variable {K : PySem.W.Frag} {mg : Str → Option Value}
def lwB (K : PySem.W.Frag) (mg : Str → Option Value) : SemS := (sIfS (sNotT (sTest (sCall (S__law_disks_right mg) [] (sCons (sCall (S__law_dice mg) [] (sCons (sVar 0) (sCons (sVar 1) sNil))) sNil)))) (sRet (sC (.bl false))) sSkip)
theorem lw_go {D : EndP} {ρ : Sm.Env} {st : Store} (h : sSeq (sForI (sIRng1 (sCB oMin (sCons (sC (.int 2)) (sCons (sCB oMax (sCons (sC (.int 1)) (sCons (sCB oLen (sCons (sVar 0) sNil)) sNil))) sNil)))) (kName 1) (lwB K mg)) (sRet (sC (.bl true))) D ρ st) : t_law K mg D ρ st := h
theorem lw_loop (D : EndP) (l : List Int) (hb : ∀ x ∈ l, Builtin.Int.intBits x ≤ 1048576) (hq : ∀ ρ s, D.nx ρ s) : ∀ (j i : Nat) (x1 : Option PV) (s : Store), i + j ≤ 100 → loopC any (kName 1) (lwB K mg) D (upto (i : Nat) j) [some (.lst (l.map .int)), x1] s
  | 0, i, x1, s, _ => ⟨trivial, hq _ s⟩
  | j + 1, i, x1, s, hi => by
    refine ⟨trivial, ?_⟩
    rw [show ((i : Nat) : Int) + 1 = ((i + 1 : Nat) : Int) by omega]
    simp only [kName, lwB, sRet, sSeq, sAsg, sIfS, sSkip, sAsgG, sDrop, sRaise, sOp, sCB, sCons, sNil, sVar, sC, sTup, sNeg, sNot, sTest, sNotT, sAndT, sOrT, sAnd, sOr, sIf, sChain, sCall, ini, endOf, kName, kTup2, kTup3, oAdd, oI, oI0, oIs, oType, tyName, isNon_non, isNon_tup, isNon_int, atI_0, atI_1, atI_n, eq2_ii, ne2_ii, List.map_cons, List.map_nil, List.length_cons, List.length_nil, List.cons_append, List.nil_append, List.append_nil, List.replicate_succ, List.replicate_zero, List.getElem?_cons_zero, List.getElem?_cons_succ, List.set_cons_zero, List.set_cons_succ, Bool.false_eq_true, decide_true, decide_false, Bool.not_true, Bool.not_false, ↓reduceIte, Nat.reduceAdd, Nat.reduceSub, Nat.zero_add, Option.isSome, true_and, sAtt, sSetAtt, sMeth, sMake]
    refine ⟨l, (i : Nat), rfl, by omega, by omega, hb, fun s1 hd => ?_⟩
    refine ⟨s.length, rfl, hd, fun s2 => ?_⟩
    exact lw_loop D l hb hq j (i + 1) _ s2 (by omega)
theorem p_law : ∀ pvs st Q PX, S_law mg pvs st Q PX → t_law K mg (endOf Q PX) (ini N_law pvs) st := by
  rintro pvs st Q PX ⟨l, rfl, hb, hl, hq⟩
  apply lw_go
  have main : ∀ D : EndP, (∀ st', D.rt (.bl true) st') → sSeq (sForI (sIRng1 (sCB oMin (sCons (sC (.int 2)) (sCons (sCB oMax (sCons (sC (.int 1)) (sCons (sCB oLen (sCons (sVar 0) sNil)) sNil))) sNil)))) (kName 1) (lwB K mg)) (sRet (sC (.bl true))) D [some (.lst (l.map .int)), none] st := by
    intro D hD
    simp only [sSeq, sForI, sIRng1, sRet, sSeq, sAsg, sIfS, sSkip, sAsgG, sDrop, sRaise, sOp, sCB, sCons, sNil, sVar, sC, sTup, sNeg, sNot, sTest, sNotT, sAndT, sOrT, sAnd, sOr, sIf, sChain, sCall, ini, endOf, kName, kTup2, kTup3, oAdd, oI, oI0, oIs, oType, tyName, isNon_non, isNon_tup, isNon_int, atI_0, atI_1, atI_n, eq2_ii, ne2_ii, List.map_cons, List.map_nil, List.length_cons, List.length_nil, List.cons_append, List.nil_append, List.append_nil, List.replicate_succ, List.replicate_zero, List.getElem?_cons_zero, List.getElem?_cons_succ, List.set_cons_zero, List.set_cons_succ, Bool.false_eq_true, decide_true, decide_false, Bool.not_true, Bool.not_false, ↓reduceIte, Nat.reduceAdd, Nat.reduceSub, Nat.zero_add, Option.isSome, true_and, sAtt, sSetAtt, sMeth, sMake, oMin, oMax, oLen, List.length_map]
    have hb2 : ∃ j : Nat, j ≤ 2 ∧ (if (if (l.length : Int) > 1 then (l.length : Int) else 1) < 2 then (if (l.length : Int) > 1 then (l.length : Int) else 1) else 2) = (j : Int) := by
      refine ⟨(if (if (l.length : Int) > 1 then (l.length : Int) else 1) < 2 then (if (l.length : Int) > 1 then (l.length : Int) else 1) else 2).toNat, ?_, ?_⟩ <;> split <;> split <;> omega
    obtain ⟨j, hj, ej⟩ := hb2
    rw [ej]
    refine ⟨⟨by omega, by omega⟩, ?_⟩
    rw [Int.toNat_natCast]
    exact lw_loop _ l hb (fun ρ s => hD s) j 0 _ st (by omega)
  exact main (endOf Q PX) hq
end K5
set_option Elab.async false
set_option linter.all false
set_option maxRecDepth 100000
set_option maxHeartbeats 1000000
namespace K5
open PySem PySem.Spec PyProof.Rows L2 Sm
structure MetF (K : PySem.W.Frag) (mg : Str → Option Value) : Prop where
  F : Fc K mg "_law_word_of" (df 36) []
  e1 : mg "InvalidName" = some (.ref (ad mg "InvalidName"))
  e2 : XfI K mg "InvalidNumber" "given"
  e3 : mg "InvalidOperation" = some (.ref (ad mg "InvalidOperation"))
  e4 : XfI K mg "UnknownName" "asked"
  e5 : XfI K mg "TooMany" "limit"
  e6 : XfI K mg "PowerLost" "taken"
abbrev N_word : List Str := ["_law_call", "e"]
theorem nd_word : N_word.Nodup := by decide +kernel
section
variable {X : Cx} {T : List (Addr × Str)} {W : WX}
theorem L_give {c P : Addr} {k j : Nat} {lpos pos p : Pos} {params : Arguments} {body : Expr} {scope : Scope} {f : Sem} (M : MetF X.K X.mg) (hcode : X.env.code = .ref c) (TB : LamX.TabB X.base X.mg c P) (hmT : (P, X.env.qual ++ "<lambda>") ∈ T) (hu : ∀ p ∈ T, p.1 = P → p.2 = X.env.qual ++ "<lambda>")
    (hkj : k + 2 ≤ j) (hr : Room j X.A) (L : LamX.LamS X.env.scope scope) (hdef : defaultsOf params X.env = ([], []))
    (hbind : ∀ (q : Str) (cl : List (Str × Addr)) (pm cv ctv : Value), bindArgs (PySem.W.kla_fn "<lambda>" q params body scope cl pm cv ctv) ⟨[], []⟩ = pure [])
    (hbody : ∀ (A : Around) (outer : List PySem.Env) (s : Shared) (H : Hp) (E : XK) (fl c' : Addr), Room k (A.deeper (LamX.lamEnv X scope s.heap.objs.size fl c')) → JE (LamX.lamCx X A outer s H E scope fl c') T (fun cls d _ H' => E cls d H') body f)
    (hg : Gl X "_law_word_of" := by rfl) : JE X T W (.Call (.Name "_law_word_of" p) [.Lambda params body scope lpos] [] pos) (sGiveT X.K (l_word X.K X.mg) "told" 2 f) := by
  refine w_giveT (Ng := N_word) (a := "_law_call") (sg := (df 36).2.2) (pg := (df 36).2.1) M.F ⟨rfl, rfl, rfl, nd_word, rfl, by decide +kernel, by decide +kernel⟩ (fun _ _ _ _ _ _ us hl => match us, hl with | [_], _ => rfl) rfl (.inl rfl) (fun _ => rfl) (fun _ => rfl) (fun g cdg s H => ?_) TB hcode hmT hu (hr.mono hkj) L hdef hbind hbody hg
  refine .cons (nm_own M.e1 rfl) (fun a oe cls d pn hz hf => z_one (s_ret (w_tup (a_cons w_str a_nil)))) ?_
  refine .named (i := 1) (nm_own M.e2.2.2 rfl) nd_word rfl rfl (fun a oe cls d pn hz hf => z_one (s_ret (w_tup (a_cons w_str (a_cons (w_xf M.e2.1 M.e2.2.1 hz hf (w_var 1)) a_nil))))) ?_
  refine .cons (nm_own M.e3 rfl) (fun a oe cls d pn hz hf => z_one (s_ret (w_tup (a_cons w_str a_nil)))) ?_
  refine .named (i := 1) (nm_own M.e4.2.2 rfl) nd_word rfl rfl (fun a oe cls d pn hz hf => z_one (s_ret (w_tup (a_cons w_str (a_cons (w_xf M.e4.1 M.e4.2.1 hz hf (w_var 1)) a_nil))))) ?_
  refine .named (i := 1) (nm_own M.e5.2.2 rfl) nd_word rfl rfl (fun a oe cls d pn hz hf => z_one (s_ret (w_tup (a_cons w_str (a_cons (w_xf M.e5.1 M.e5.2.1 hz hf (w_var 1)) a_nil))))) ?_
  exact .named (i := 1) (nm_own M.e6.2.2 rfl) nd_word rfl rfl (fun a oe cls d pn hz hf => z_one (s_ret (w_tup (a_cons w_str (a_cons (w_xf M.e6.1 M.e6.2.1 hz hf (w_var 1)) a_nil))))) .nil
theorem L_giveK {c P : Addr} {k j : Nat} {lpos pos p : Pos} {params : Arguments} {body : Expr} {scope : Scope} {f : Sem} (M : MetF X.K X.mg) (hcode : X.env.code = .ref c) (TB : LamX.TabB X.base X.mg c P) (hmT : (P, X.env.qual ++ "<lambda>") ∈ T) (hu : ∀ p ∈ T, p.1 = P → p.2 = X.env.qual ++ "<lambda>")
    (hkj : k + 2 ≤ j) (hr : Room j X.A) (L : LamX.LamS X.env.scope scope) (hdef : defaultsOf params X.env = ([], []))
    (hbind : ∀ (q : Str) (cl : List (Str × Addr)) (pm cv ctv : Value), bindArgs (PySem.W.kla_fn "<lambda>" q params body scope cl pm cv ctv) ⟨[], []⟩ = pure [])
    (hbody : ∀ (A : Around) (outer : List PySem.Env) (s : Shared) (H : Hp) (E : XK) (fl c' : Addr), Room k (A.deeper (LamX.lamEnv X scope s.heap.objs.size fl c')) → JET (LamX.lamCx X A outer s H E scope fl c') T (fun cls d _ H' => E cls d H') body f)
    (hg : Gl X "_law_word_of" := by rfl) : JE X T W (.Call (.Name "_law_word_of" p) [.Lambda params body scope lpos] [] pos) (sGiveT X.K (l_word X.K X.mg) "told" 2 f) := by
  refine w_giveTok (Ng := N_word) (a := "_law_call") (sg := (df 36).2.2) (pg := (df 36).2.1) M.F ⟨rfl, rfl, rfl, nd_word, rfl, by decide +kernel, by decide +kernel⟩ (fun _ _ _ _ _ _ us hl => match us, hl with | [_], _ => rfl) rfl (.inl rfl) (fun _ => rfl) (fun _ => rfl) (fun g cdg s H => ?_) TB hcode hmT hu (hr.mono hkj) L hdef hbind hbody hg
  refine .cons (nm_own M.e1 rfl) (fun a oe cls d pn hz hf => z_one (s_ret (w_tup (a_cons w_str a_nil)))) ?_
  refine .named (i := 1) (nm_own M.e2.2.2 rfl) nd_word rfl rfl (fun a oe cls d pn hz hf => z_one (s_ret (w_tup (a_cons w_str (a_cons (w_xf M.e2.1 M.e2.2.1 hz hf (w_var 1)) a_nil))))) ?_
  refine .cons (nm_own M.e3 rfl) (fun a oe cls d pn hz hf => z_one (s_ret (w_tup (a_cons w_str a_nil)))) ?_
  refine .named (i := 1) (nm_own M.e4.2.2 rfl) nd_word rfl rfl (fun a oe cls d pn hz hf => z_one (s_ret (w_tup (a_cons w_str (a_cons (w_xf M.e4.1 M.e4.2.1 hz hf (w_var 1)) a_nil))))) ?_
  refine .named (i := 1) (nm_own M.e5.2.2 rfl) nd_word rfl rfl (fun a oe cls d pn hz hf => z_one (s_ret (w_tup (a_cons w_str (a_cons (w_xf M.e5.1 M.e5.2.1 hz hf (w_var 1)) a_nil))))) ?_
  exact .named (i := 1) (nm_own M.e6.2.2 rfl) nd_word rfl rfl (fun a oe cls d pn hz hf => z_one (s_ret (w_tup (a_cons w_str (a_cons (w_xf M.e6.1 M.e6.2.1 hz hf (w_var 1)) a_nil))))) .nil
end
end K5
set_option Elab.async false
set_option linter.all false
set_option maxRecDepth 100000
set_option maxHeartbeats 2000000
namespace K5
open PySem PySem.Spec PyProof.Rows L2 Sm Cm
section
variable {P : Program} {w : World} {K : PySem.W.Frag} {T : List (Addr × Str)} {mg : Str → Option Value} {base : Heap}
theorem g_ten_to (fr : Fr mg frees) (F : Fc K mg "ten_to" (df 3) [])  (hlen : ∀ pvs st Q PX, S_ten_to mg pvs st Q PX → pvs.length = 1) (hp : ∀ pvs st Q PX, S_ten_to mg pvs st Q PX → t_ten_to K mg (endOf Q PX) (ini N_ten_to pvs) st) :
    Gd P w K T mg base false 1 "ten_to" ["many"] [] (S_ten_to mg) :=
  g_def (gd := false) (k := 0) (N := N_ten_to) F ⟨rfl, rfl, rfl, nd_ten_to, rfl, by decide +kernel, by decide +kernel⟩ (fun _ _ _ _ _ _ us hl => match us, hl with | [_], _ => rfl) hlen fun f cdv A outer sh H E hr hgd =>
    ⟨t_ten_to K mg, by unfold t_ten_to; exact (z_cons (s_asg nd_ten_to rfl (.inl rfl) w_int) (z_cons (s_asg nd_ten_to rfl (.inl rfl) w_int) (z_cons (s_asg nd_ten_to rfl (.inl rfl) (w_var 0)) (z_cons (s_while (passes_of rfl) (t_cmp op_gt os_B0 (w_var 3) w_int (nomark _)) (z_cons (s_if (t_cmp (op_eqD (hu_of4 hr)) os_eq (w_and (w_var 3) w_int) w_int (nomark _)) (z_one (s_asg nd_ten_to rfl (.inl rfl) (w_mul (w_var 1) (w_var 2)))) z_nil) (z_cons (s_asg nd_ten_to rfl (.inl rfl) (w_mul (w_var 2) (w_var 2))) (z_one (s_asg nd_ten_to rfl (.inl rfl) (w_shr (w_var 3) w_int)))))) (z_one (s_ret (w_var 1))))))), hp⟩
theorem g_has_more_digits (fr : Fr mg frees) (F : Fc K mg "has_more_digits" (df 4) []) (G_ten_to : Gd P w K T mg base false 1 "ten_to" ["many"] [] (S_ten_to mg)) (hlen : ∀ pvs st Q PX, S_has_more_digits mg pvs st Q PX → pvs.length = 2) (hp : ∀ pvs st Q PX, S_has_more_digits mg pvs st Q PX → t_has_more_digits K mg (endOf Q PX) (ini N_has_more_digits pvs) st) :
    Gd P w K T mg base false 2 "has_more_digits" ["number", "many"] [] (S_has_more_digits mg) :=
  g_def (gd := false) (k := 1) (N := N_has_more_digits) F ⟨rfl, rfl, rfl, nd_has_more_digits, rfl, by decide +kernel, by decide +kernel⟩ (fun _ _ _ _ _ _ us hl => match us, hl with | [_, _], _ => rfl) hlen fun f cdv A outer sh H E hr hgd =>
    ⟨t_has_more_digits K mg, by unfold t_has_more_digits; exact (z_cons (s_asg nd_has_more_digits rfl (.inl rfl) (w_bits (w_var 0))) (z_cons (s_if (t_cmp op_le os_B0 (w_mul (w_var 2) w_int) (w_mul (w_var 1) w_int) (nomark _)) (z_one (s_ret w_bl)) z_nil) (z_cons (s_if (t_cmp op_ge os_B0 (w_mul (w_sub (w_var 2) w_int) w_int) (w_mul (w_var 1) w_int) (nomark _)) (z_one (s_ret w_bl)) z_nil) (z_one (s_ret (w_ge (c_abs (fr "abs" (.tail _ (.tail _ (.tail _ (.head _))))) (a_cons (w_var 0) a_nil)) (w_cg G_ten_to hr (by decide) Gu.no (takes_of rfl rfl rfl rfl) (a_cons (w_var 1) a_nil)))))))), hp⟩
theorem g_is_integer_of (fr : Fr mg frees) (F : Fc K mg "is_integer_of" (df 5) []) (G_has_more_digits : Gd P w K T mg base false 2 "has_more_digits" ["number", "many"] [] (S_has_more_digits mg)) (hlen : ∀ pvs st Q PX, S_is_integer_of mg pvs st Q PX → pvs.length = 2) (hp : ∀ pvs st Q PX, S_is_integer_of mg pvs st Q PX → t_is_integer_of K mg (endOf Q PX) (ini N_is_integer_of pvs) st) :
    Gd P w K T mg base false 3 "is_integer_of" ["value", "many"] [] (S_is_integer_of mg) :=
  g_def (gd := false) (k := 2) (N := N_is_integer_of) F ⟨rfl, rfl, rfl, nd_is_integer_of, rfl, by decide +kernel, by decide +kernel⟩ (fun _ _ _ _ _ _ us hl => match us, hl with | [_, _], _ => rfl) hlen fun f cdv A outer sh H E hr hgd =>
    ⟨t_is_integer_of K mg, by unfold t_is_integer_of; exact (z_one (s_ret (w_andV (w_is (c_type (fr "type" (.head _)) (a_cons (w_var 0) a_nil)) (w_type rfl (fr "int" (.tail _ (.head _))) bt_int)) (w_and1 (w_not (w_cg G_has_more_digits hr (by decide) Gu.no (takes_of rfl rfl rfl rfl) (a_cons (w_var 0) (a_cons (w_var 1) a_nil)))))))), hp⟩
theorem g_is_passed_integer (fr : Fr mg frees) (F : Fc K mg "is_passed_integer" (df 6) []) (G_is_integer_of : Gd P w K T mg base false 3 "is_integer_of" ["value", "many"] [] (S_is_integer_of mg)) (k_MOST_PASSED : ∃ t, mg "MOST_PASSED" = some (.int 60 t)) (hlen : ∀ pvs st Q PX, S_is_passed_integer mg pvs st Q PX → pvs.length = 1) (hp : ∀ pvs st Q PX, S_is_passed_integer mg pvs st Q PX → t_is_passed_integer K mg (endOf Q PX) (ini N_is_passed_integer pvs) st) :
    Gd P w K T mg base false 4 "is_passed_integer" ["value"] [] (S_is_passed_integer mg) :=
  g_def (gd := false) (k := 3) (N := N_is_passed_integer) F ⟨rfl, rfl, rfl, nd_is_passed_integer, rfl, by decide +kernel, by decide +kernel⟩ (fun _ _ _ _ _ _ us hl => match us, hl with | [_], _ => rfl) hlen fun f cdv A outer sh H E hr hgd =>
    ⟨t_is_passed_integer K mg, by unfold t_is_passed_integer; exact (z_one (s_ret (w_cg G_is_integer_of hr (by decide) Gu.no (takes_of rfl rfl rfl rfl) (a_cons (w_var 0) (a_cons (w_gi k_MOST_PASSED) a_nil))))), hp⟩
theorem g_is_between (fr : Fr mg frees) (F : Fc K mg "is_between" (df 7) [])  (hlen : ∀ pvs st Q PX, S_is_between mg pvs st Q PX → pvs.length = 3) (hp : ∀ pvs st Q PX, S_is_between mg pvs st Q PX → t_is_between K mg (endOf Q PX) (ini N_is_between pvs) st) :
    Gd P w K T mg base false 1 "is_between" ["value", "least", "most"] [] (S_is_between mg) :=
  g_def (gd := false) (k := 0) (N := N_is_between) F ⟨rfl, rfl, rfl, nd_is_between, rfl, by decide +kernel, by decide +kernel⟩ (fun _ _ _ _ _ _ us hl => match us, hl with | [_, _, _], _ => rfl) hlen fun f cdv A outer sh H E hr hgd =>
    ⟨t_is_between K mg, by unfold t_is_between; exact (z_one (s_ret (w_andV (w_is (c_type (fr "type" (.head _)) (a_cons (w_var 0) a_nil)) (w_type rfl (fr "int" (.tail _ (.head _))) bt_int)) (w_and1 (w_chain op_le op_le os_B0 os_B0 (w_var 1) (w_var 0) (w_var 2)))))), hp⟩
theorem g_is_printable (fr : Fr mg frees) (F : Fc K mg "is_printable" (df 9) [])  (hlen : ∀ pvs st Q PX, S_is_printable mg pvs st Q PX → pvs.length = 1) (hp : ∀ pvs st Q PX, S_is_printable mg pvs st Q PX → t_is_printable K mg (endOf Q PX) (ini N_is_printable pvs) st) :
    Gd P w K T mg base false 1 "is_printable" ["text"] [] (S_is_printable mg) :=
  g_def (gd := false) (k := 0) (N := N_is_printable) F ⟨rfl, rfl, rfl, nd_is_printable, rfl, by decide +kernel, by decide +kernel⟩ (fun _ _ _ _ _ _ us hl => match us, hl with | [_], _ => rfl) hlen fun f cdv A outer sh H E hr hgd =>
    ⟨t_is_printable K mg, by unfold t_is_printable; exact (z_one (s_ret (c_all rfl (fr "all" (.tail _ (.tail _ (.tail _ (.tail _ (.tail _ (.tail _ (.tail _ (.tail _ (.tail _ (.tail _ (.tail _ (.head _))))))))))))) (a_cons (w_lcS rfl nd_is_printable (w_var 0) (blkOk_by (N := N_is_printable) (sc := (df 9).2.2) (by decide +kernel)) (fun s H C cl fp => pg_name nd_is_printable rfl (.inl rfl)) blk_yes (fun s H C cl fp => (w_leSS w_str (w_var 1) w_str))) a_nil)))), hp⟩
theorem g_is_name (fr : Fr mg frees) (F : Fc K mg "is_name" (df 22) []) (k__LETTERS : ∃ t, mg "_LETTERS" = some (.str "abcdefghijklmnopqrstuvwxyz" t)) (k__LONGEST_NAME : ∃ t, mg "_LONGEST_NAME" = some (.int 8 t)) (k__DIGITS : ∃ t, mg "_DIGITS" = some (.str "0123456789" t)) (hlen : ∀ pvs st Q PX, S_is_name mg pvs st Q PX → pvs.length = 1) (hp : ∀ pvs st Q PX, S_is_name mg pvs st Q PX → t_is_name K mg (endOf Q PX) (ini N_is_name pvs) st) :
    Gd P w K T mg base false 1 "is_name" ["value"] [] (S_is_name mg) :=
  g_def (gd := false) (k := 0) (N := N_is_name) F ⟨rfl, rfl, rfl, nd_is_name, rfl, by decide +kernel, by decide +kernel⟩ (fun _ _ _ _ _ _ us hl => match us, hl with | [_], _ => rfl) hlen fun f cdv A outer sh H E hr hgd =>
    ⟨t_is_name K mg, by unfold t_is_name; exact (z_cons (s_if (t_w (t_or (t_cmp (OpR.or op_notN op_notTyB) os_isnot (c_type (fr "type" (.head _)) (a_cons (w_var 0) a_nil)) (w_type rfl (fr "str" (.tail _ (.tail _ (.tail _ (.tail _ (.tail _ (.head _))))))) bt_str) (nomark _)) (t_or1 (t_not (t_chain op_le op_le os_B0 os_B0 w_int (c_len (fr "len" (.tail _ (.tail _ (.head _)))) (a_cons (w_var 0) a_nil)) (w_gi k__LONGEST_NAME)))))) (z_one (s_ret w_bl)) z_nil) (z_one (s_ret (w_andV (w_inS (w_ix (w_var 0) w_int) (w_gs k__LETTERS)) (w_and1 (c_all rfl (fr "all" (.tail _ (.tail _ (.tail _ (.tail _ (.tail _ (.tail _ (.tail _ (.tail _ (.tail _ (.tail _ (.tail _ (.head _))))))))))))) (a_cons (w_lcS rfl nd_is_name (w_var 0) (blkOk_by (N := N_is_name) (sc := (df 22).2.2) (by decide +kernel)) (fun s H C cl fp => pg_name nd_is_name rfl (.inl rfl)) blk_yes (fun s H C cl fp => (w_orV (w_inS (w_var 1) (w_gs k__LETTERS)) (w_or1 (w_inS (w_var 1) (w_gs k__DIGITS)))))) a_nil))))))), hp⟩
theorem g_DiskFile___init__ {f : Addr} {fd : FuncData} (fr : Fr mg frees) (hm : mg "DiskFile" = some (.ref (ad mg "DiskFile"))) (Mm : Mk K (ad mg "DiskFile") f) (F : FunD K "__init__" "DiskFile.__init__" (dm 27 0).2.1 (dm 27 0).1 (dm 27 0).2.2 [] [] f fd) (c_DiskFile : Cls K (ad mg "DiskFile")) (n_DiskFile_text : NoAttr K (ad mg "DiskFile") "text") (n_DiskFile_firm_count : NoAttr K (ad mg "DiskFile") "firm_count") (hlen : ∀ pvs st Q PX, S_DiskFile___init__ mg pvs st Q PX → pvs.length = 3) (hp : ∀ pvs st Q PX, S_DiskFile___init__ mg pvs st Q PX → t_DiskFile___init__ K mg (endOf Q PX) (ini N_DiskFile___init__ pvs) st) :
    Gi P w K T mg base 1 "DiskFile" ["self", "text", "firm_count"] [] (S_DiskFile___init__ mg) :=
  g_init (k := 0) (N := N_DiskFile___init__) hm Mm F ⟨rfl, rfl, rfl, nd_DiskFile___init__, rfl, by decide +kernel, by decide +kernel⟩ (fun _ _ _ _ _ _ us hl => match us, hl with | [_, _, _], _ => rfl) hlen (fun cdv A outer sh H E hr => ⟨t_DiskFile___init__ K mg, by unfold t_DiskFile___init__; exact (z_cons (s_setAtt c_DiskFile n_DiskFile_text (w_var 0) (w_var 1)) (z_one (s_setAtt c_DiskFile n_DiskFile_firm_count (w_var 0) (w_var 2)))), hp⟩)
theorem g__is_text (fr : Fr mg frees) (F : Fc K mg "_is_text" (df 28) []) (G_is_printable : Gd P w K T mg base false 1 "is_printable" ["text"] [] (S_is_printable mg)) (hlen : ∀ pvs st Q PX, S__is_text mg pvs st Q PX → pvs.length = 1) (hp : ∀ pvs st Q PX, S__is_text mg pvs st Q PX → t__is_text K mg (endOf Q PX) (ini N__is_text pvs) st) :
    GdT P w K T mg base 2 "_is_text" ["value"] (S__is_text mg) :=
  gT_def (k := 1) (N := N__is_text) F ⟨rfl, rfl, rfl, nd__is_text, rfl, by decide +kernel, by decide +kernel⟩ (fun _ _ _ _ _ _ us hl => match us, hl with | [_], _ => rfl) hlen fun f cdv A outer sh H E hr =>
    ⟨t__is_text K mg, by unfold t__is_text; exact (zt_one (st_ret (et_andV (w_is (c_type (fr "type" (.head _)) (a_cons (w_var 0) a_nil)) (w_type rfl (fr "str" (.tail _ (.tail _ (.tail _ (.tail _ (.tail _ (.head _))))))) bt_str)) (et_and1 (et_cg G_is_printable hr (by decide) Gu.no (takes_of rfl rfl rfl rfl) (at_one (et_repl (w_var 0)))))))), hp⟩
theorem g__are_choices (fr : Fr mg frees) (F : Fc K mg "_are_choices" (df 29) []) (G_is_passed_integer : Gd P w K T mg base false 4 "is_passed_integer" ["value"] [] (S_is_passed_integer mg)) (hlen : ∀ pvs st Q PX, S__are_choices mg pvs st Q PX → pvs.length = 1) (hp : ∀ pvs st Q PX, S__are_choices mg pvs st Q PX → t__are_choices K mg (endOf Q PX) (ini N__are_choices pvs) st) :
    Gd P w K T mg base false 5 "_are_choices" ["value"] [] (S__are_choices mg) :=
  g_def (gd := false) (k := 4) (N := N__are_choices) F ⟨rfl, rfl, rfl, nd__are_choices, rfl, by decide +kernel, by decide +kernel⟩ (fun _ _ _ _ _ _ us hl => match us, hl with | [_], _ => rfl) hlen fun f cdv A outer sh H E hr hgd =>
    ⟨t__are_choices K mg, by unfold t__are_choices; exact (z_one (s_ret (w_andV (w_is (c_type (fr "type" (.head _)) (a_cons (w_var 0) a_nil)) (w_type rfl (fr "tuple" (.tail _ (.tail _ (.tail _ (.tail _ (.tail _ (.tail _ (.tail _ (.tail _ (.tail _ (.tail _ (.head _)))))))))))) bt_tuple)) (w_and1 (c_all rfl (fr "all" (.tail _ (.tail _ (.tail _ (.tail _ (.tail _ (.tail _ (.tail _ (.tail _ (.tail _ (.tail _ (.tail _ (.head _))))))))))))) (a_cons (w_lcI (own := [("choice", 1)]) rfl nd__are_choices (i_seq (w_var 0)) (blkOk_by (N := N__are_choices) (sc := (df 29).2.2) (by decide +kernel)) (fun s H C cl fp => gw_name (pg_name nd__are_choices rfl (.inl rfl))) blk_yes (fun s H C cl fp => (w_andV (w_cg G_is_passed_integer hr (by decide) Gu.no LamX.takes0 (a_cons (w_var 1) a_nil)) (w_and1 (w_ge (w_var 1) w_int))))) a_nil)))))), hp⟩
theorem g__choice_at (fr : Fr mg frees) (F : Fc K mg "_choice_at" (df 30) [])  (hlen : ∀ pvs st Q PX, S__choice_at mg pvs st Q PX → pvs.length = 3) (hp : ∀ pvs st Q PX, S__choice_at mg pvs st Q PX → t__choice_at K mg (endOf Q PX) (ini N__choice_at pvs) st) :
    Gd P w K T mg base false 1 "_choice_at" ["choices", "index", "many"] [] (S__choice_at mg) :=
  g_def (gd := false) (k := 0) (N := N__choice_at) F ⟨rfl, rfl, rfl, nd__choice_at, rfl, by decide +kernel, by decide +kernel⟩ (fun _ _ _ _ _ _ us hl => match us, hl with | [_, _, _], _ => rfl) hlen fun f cdv A outer sh H E hr hgd =>
    ⟨t__choice_at K mg, by unfold t__choice_at; exact (z_one (s_ret (w_if (t_cmp op_lt os_B0 (w_var 1) (c_len (fr "len" (.tail _ (.tail _ (.head _)))) (a_cons (w_var 0) a_nil)) (nomark _)) (w_mod (w_ix (w_var 0) (w_var 1)) (w_var 2)) w_int))), hp⟩
theorem g_Disk___init__ {f : Addr} {fd : FuncData} {kws : List (Str × V)} (fr : Fr mg frees) (hm : mg "Disk" = some (.ref (ad mg "Disk"))) (Mm : Mk K (ad mg "Disk") f) (hkw : kws ≠ []) (F : FunD K "__init__" "Disk.__init__" (dm 31 0).2.1 (dm 31 0).1 (dm 31 0).2.2 [] kws f fd) (c_Disk : Cls K (ad mg "Disk")) (x_InvalidNumber : ExI K mg "InvalidNumber" "given") (G_is_between : Gd P w K T mg base false 1 "is_between" ["value", "least", "most"] [] (S_is_between mg)) (k__MOST_POWER : ∃ t, mg "_MOST_POWER" = some (.int 1000000 t)) (n_Disk__power : NoAttr K (ad mg "Disk") "_power") (n_Disk__steps : NoAttr K (ad mg "Disk") "_steps") (n_Disk__tables : NoAttr K (ad mg "Disk") "_tables") (hlen : ∀ pvs st Q PX, S_Disk___init__ mg pvs st Q PX → pvs.length = 2) (hp : ∀ pvs st Q PX, S_Disk___init__ mg pvs st Q PX → t_Disk___init__ K mg (endOf Q PX) (ini N_Disk___init__ pvs) st) :
    Gik P w K T mg base 2 "Disk" ["self", "power"] 0 ["power"] ((fun vs zs => vs ++ zs)) (S_Disk___init__ mg) :=
  g_initK (k := 1) (N := N_Disk___init__) hm Mm F (kb_all F hkw (fun _ _ _ _ _ _ us ws h1 h2 => match us, ws, h1, h2 with | [_], [_], _, _ => rfl)) ⟨rfl, rfl, rfl, nd_Disk___init__, rfl, by decide +kernel, by decide +kernel⟩ hlen (fun cdv A outer sh H E hr => ⟨t_Disk___init__ K mg, by unfold t_Disk___init__; exact (z_cons (s_if (t_w (t_and (t_cmp (OpR.or op_notN op_notTyB) os_isnot (w_var 1) w_non (nomark _)) (t_and1 (t_not (t_val (w_cg G_is_between hr (by decide) Gu.no (takes_of rfl rfl rfl rfl) (a_cons (w_var 1) (a_cons w_int (a_cons (w_gi k__MOST_POWER) a_nil))))))))) (z_one (s_rz rfl (takes_of rfl rfl rfl rfl) x_InvalidNumber hr (a_cons (w_var 1) a_nil))) z_nil) (z_cons (s_setAtt c_Disk n_Disk__power (w_var 0) (w_var 1)) (z_cons (s_setAtt c_Disk n_Disk__steps (w_var 0) w_int) (z_one (s_setAtt c_Disk n_Disk__tables (w_var 0) (w_new (a_cons w_dnew a_nil))))))), hp⟩)
theorem g_Disk_names {f : Addr} {fd : FuncData} {p : Addr} (fr : Fr mg frees) (Mm : PropOf K (ad mg "Disk") "names" p f) (F : FunD K "names" "Disk.names" (dm 31 1).2.1 (dm 31 1).1 (dm 31 1).2.2 [] [] f fd) (c_Disk : Cls K (ad mg "Disk")) (n_Disk__tables : NoAttr K (ad mg "Disk") "_tables") (hlen : ∀ pvs st Q PX, S_Disk_names mg pvs st Q PX → pvs.length = 1) (hp : ∀ pvs st Q PX, S_Disk_names mg pvs st Q PX → t_Disk_names K mg (endOf Q PX) (ini N_Disk_names pvs) st) :
    Gp P w K T mg base 1 (ad mg "Disk") "names" (S_Disk_names mg) :=
  g_prop (k := 0) (N := N_Disk_names) Mm F ⟨rfl, rfl, rfl, nd_Disk_names, rfl, by decide +kernel, by decide +kernel⟩ (fun _ _ _ _ _ _ us hl => match us, hl with | [_], _ => rfl) hlen (fun cdv A outer sh H E hr => ⟨t_Disk_names K mg, by unfold t_Disk_names; exact (z_one (s_ret (c_tuple (fr "tuple" (.tail _ (.tail _ (.tail _ (.tail _ (.tail _ (.tail _ (.tail _ (.tail _ (.tail _ (.tail _ (.head _)))))))))))) (a_cons (c_dsort rfl (fr "sorted" (.tail _ (.tail _ (.tail _ (.tail _ (.tail _ (.tail _ (.tail _ (.tail _ (.tail _ (.tail _ (.tail _ (.tail _ (.tail _ (.tail _ (.head _)))))))))))))))) (a_cons (w_ix (w_att c_Disk n_Disk__tables (w_var 0)) (w_neg w_int)) a_nil)) a_nil)))), hp⟩)
theorem g_Disk_steps {f : Addr} {fd : FuncData} {p : Addr} (fr : Fr mg frees) (Mm : PropOf K (ad mg "Disk") "steps" p f) (F : FunD K "steps" "Disk.steps" (dm 31 2).2.1 (dm 31 2).1 (dm 31 2).2.2 [] [] f fd) (c_Disk : Cls K (ad mg "Disk")) (n_Disk__steps : NoAttr K (ad mg "Disk") "_steps") (hlen : ∀ pvs st Q PX, S_Disk_steps mg pvs st Q PX → pvs.length = 1) (hp : ∀ pvs st Q PX, S_Disk_steps mg pvs st Q PX → t_Disk_steps K mg (endOf Q PX) (ini N_Disk_steps pvs) st) :
    Gp P w K T mg base 1 (ad mg "Disk") "steps" (S_Disk_steps mg) :=
  g_prop (k := 0) (N := N_Disk_steps) Mm F ⟨rfl, rfl, rfl, nd_Disk_steps, rfl, by decide +kernel, by decide +kernel⟩ (fun _ _ _ _ _ _ us hl => match us, hl with | [_], _ => rfl) hlen (fun cdv A outer sh H E hr => ⟨t_Disk_steps K mg, by unfold t_Disk_steps; exact (z_one (s_ret (w_att c_Disk n_Disk__steps (w_var 0)))), hp⟩)
theorem g_Disk__check_file {f : Addr} {fd : FuncData} (fr : Fr mg frees) (Mm : Meth K (ad mg "Disk") "_check_file" f) (F : FunD K "_check_file" "Disk._check_file" (dm 31 3).2.1 (dm 31 3).1 (dm 31 3).2.2 [] [] f fd) (c_Disk : Cls K (ad mg "Disk")) (G_Disk___contains__ : Gs P w K T mg base 1 (ad mg "Disk") "__contains__" ["self", "value"] (S_Disk___contains__ mg)) (x_UnknownName : ExI K mg "UnknownName" "asked") (hlen : ∀ pvs st Q PX, S_Disk__check_file mg pvs st Q PX → pvs.length = 2) (hp : ∀ pvs st Q PX, S_Disk__check_file mg pvs st Q PX → t_Disk__check_file K mg (endOf Q PX) (ini N_Disk__check_file pvs) st) :
    Gm P w K T mg base 2 (ad mg "Disk") "_check_file" ["self", "name"] [] (S_Disk__check_file mg) :=
  g_meth (k := 1) (N := N_Disk__check_file) Mm F ⟨rfl, rfl, rfl, nd_Disk__check_file, rfl, by decide +kernel, by decide +kernel⟩ (fun _ _ _ _ _ _ us hl => match us, hl with | [_, _], _ => rfl) hlen (fun cdv A outer sh H E hr => ⟨t_Disk__check_file K mg, by unfold t_Disk__check_file; exact (z_one (s_if (t_cmp (op_niO G_Disk___contains__ hr (by decide)) os_inO (w_var 1) (w_var 0) rfl) (z_one (s_rz rfl (takes_of rfl rfl rfl rfl) x_UnknownName hr (a_cons (w_var 1) a_nil))) z_nil)), hp⟩)
theorem g_Disk__step {f : Addr} {fd : FuncData} (fr : Fr mg frees) (Mm : Meth K (ad mg "Disk") "_step" f) (F : FunD K "_step" "Disk._step" (dm 31 4).2.1 (dm 31 4).1 (dm 31 4).2.2 [] [] f fd) (c_Disk : Cls K (ad mg "Disk")) (x_PowerLost : ExI K mg "PowerLost" "taken") (n_Disk__steps : NoAttr K (ad mg "Disk") "_steps") (n_Disk__power : NoAttr K (ad mg "Disk") "_power") (hlen : ∀ pvs st Q PX, S_Disk__step mg pvs st Q PX → pvs.length = 1) (hp : ∀ pvs st Q PX, S_Disk__step mg pvs st Q PX → t_Disk__step K mg (endOf Q PX) (ini N_Disk__step pvs) st) :
    Gm P w K T mg base 1 (ad mg "Disk") "_step" ["self"] [] (S_Disk__step mg) :=
  g_meth (k := 0) (N := N_Disk__step) Mm F ⟨rfl, rfl, rfl, nd_Disk__step, rfl, by decide +kernel, by decide +kernel⟩ (fun _ _ _ _ _ _ us hl => match us, hl with | [_], _ => rfl) hlen (fun cdv A outer sh H E hr => ⟨t_Disk__step K mg, by unfold t_Disk__step; exact (z_cons (s_if (t_cmp (OpR.or op_eq (op_eqD (hu_of4 hr))) os_eq2 (w_att c_Disk n_Disk__steps (w_var 0)) (w_att c_Disk n_Disk__power (w_var 0)) (nomark _)) (z_one (s_rz rfl (takes_of rfl rfl rfl rfl) x_PowerLost hr (a_cons (w_att c_Disk n_Disk__power (w_var 0)) a_nil))) z_nil) (z_one (s_setAtt c_Disk n_Disk__steps (w_var 0) (w_add (w_att c_Disk n_Disk__steps (w_var 0)) w_int)))), hp⟩)
theorem g_Disk__with_names {f : Addr} {fd : FuncData} (fr : Fr mg frees) (Mm : Meth K (ad mg "Disk") "_with_names" f) (F : FunD K "_with_names" "Disk._with_names" (dm 31 5).2.1 (dm 31 5).1 (dm 31 5).2.2 [] [] f fd) (c_Disk : Cls K (ad mg "Disk")) (n_Disk__tables : NoAttr K (ad mg "Disk") "_tables") (hlen : ∀ pvs st Q PX, S_Disk__with_names mg pvs st Q PX → pvs.length = 2) (hp : ∀ pvs st Q PX, S_Disk__with_names mg pvs st Q PX → t_Disk__with_names K mg (endOf Q PX) (ini N_Disk__with_names pvs) st) :
    Gm P w K T mg base 1 (ad mg "Disk") "_with_names" ["self", "table"] [] (S_Disk__with_names mg) :=
  g_meth (k := 0) (N := N_Disk__with_names) Mm F ⟨rfl, rfl, rfl, nd_Disk__with_names, rfl, by decide +kernel, by decide +kernel⟩ (fun _ _ _ _ _ _ us hl => match us, hl with | [_, _], _ => rfl) hlen (fun cdv A outer sh H E hr => ⟨t_Disk__with_names K mg, by unfold t_Disk__with_names; exact (z_one (s_drop (w_app (w_att c_Disk n_Disk__tables (w_var 0)) (a_cons (w_var 1) a_nil)))), hp⟩)
theorem g_Disk__other_names {f : Addr} {fd : FuncData} (fr : Fr mg frees) (Mm : Meth K (ad mg "Disk") "_other_names" f) (F : FunD K "_other_names" "Disk._other_names" (dm 31 6).2.1 (dm 31 6).1 (dm 31 6).2.2 [] [] f fd) (c_Disk : Cls K (ad mg "Disk")) (n_Disk__tables : NoAttr K (ad mg "Disk") "_tables") (hlen : ∀ pvs st Q PX, S_Disk__other_names mg pvs st Q PX → pvs.length = 2) (hp : ∀ pvs st Q PX, S_Disk__other_names mg pvs st Q PX → t_Disk__other_names K mg (endOf Q PX) (ini N_Disk__other_names pvs) st) :
    Gm P w K T mg base 1 (ad mg "Disk") "_other_names" ["self", "name"] [] (S_Disk__other_names mg) :=
  g_meth (k := 0) (N := N_Disk__other_names) Mm F ⟨rfl, rfl, rfl, nd_Disk__other_names, rfl, by decide +kernel, by decide +kernel⟩ (fun _ _ _ _ _ _ us hl => match us, hl with | [_, _], _ => rfl) hlen (fun cdv A outer sh H E hr => ⟨t_Disk__other_names K mg, by unfold t_Disk__other_names; exact (z_cons (s_asg nd_Disk__other_names rfl (.inr rfl) (w_ix (w_att c_Disk n_Disk__tables (w_var 0)) (w_neg w_int))) (z_one (s_ret (w_lock (w_dcI (own := [("one", 3)]) rfl nd_Disk__other_names (i_keys (w_var 2)) (blkOk_by (N := N_Disk__other_names) (sc := (dm 31 6).2.2) (by decide +kernel)) (fun s H C cl fp => gw_name (pg_name nd_Disk__other_names rfl (.inl rfl))) (blk_if fun s H C cl fp => (t_cmp (OpR.or op_ne (op_neD (hu_of4 hr))) os_ne2 (w_var 3) (w_var 1) (nomark _))) (fun s H C cl fp => (w_var 3)) (fun s H C cl fp => (w_dix (hu_of1 hr) (w_var 2) (w_var 3)))))))), hp⟩)
theorem g_Disk_append {f : Addr} {fd : FuncData} (fr : Fr mg frees) (Mm : Meth K (ad mg "Disk") "append" f) (F : FunD K "append" "Disk.append" (dm 31 7).2.1 (dm 31 7).1 (dm 31 7).2.2 [] [] f fd) (c_Disk : Cls K (ad mg "Disk")) (c_DiskFile : Cls K (ad mg "DiskFile")) (x_InvalidName : ExI K mg "InvalidName" "message") (x_InvalidOperation : ExI K mg "InvalidOperation" "message") (x_TooMany : ExI K mg "TooMany" "limit") (G_Disk__step : Gm P w K T mg base 1 (ad mg "Disk") "_step" ["self"] [] (S_Disk__step mg)) (G_Disk___contains__ : Gs P w K T mg base 1 (ad mg "Disk") "__contains__" ["self", "value"] (S_Disk___contains__ mg)) (G_Disk_read : Gm P w K T mg base 3 (ad mg "Disk") "read" ["self", "name"] [] (S_Disk_read mg)) (k_MAX_TEXT : ∃ t, mg "MAX_TEXT" = some (.int 200000 t)) (G_Disk__other_names : Gm P w K T mg base 1 (ad mg "Disk") "_other_names" ["self", "name"] [] (S_Disk__other_names mg)) (G_DiskFile___init__ : Gi P w K T mg base 1 "DiskFile" ["self", "text", "firm_count"] [] (S_DiskFile___init__ mg)) (G_Disk__with_names : Gm P w K T mg base 1 (ad mg "Disk") "_with_names" ["self", "table"] [] (S_Disk__with_names mg)) (G_is_name : Gd P w K T mg base false 1 "is_name" ["value"] [] (S_is_name mg)) (G__is_text : GdT P w K T mg base 2 "_is_text" ["value"] (S__is_text mg)) (G_Disk___len__ : Gs P w K T mg base 1 (ad mg "Disk") "__len__" ["self"] (S_Disk___len__ mg)) (k_MAX_FILES : ∃ t, mg "MAX_FILES" = some (.int 8 t)) (n_Disk__tables : NoAttr K (ad mg "Disk") "_tables") (n_DiskFile_text : NoAttr K (ad mg "DiskFile") "text") (hlen : ∀ pvs st Q PX, S_Disk_append mg pvs st Q PX → pvs.length = 3) (hp : ∀ pvs st Q PX, S_Disk_append mg pvs st Q PX → t_Disk_append K mg (endOf Q PX) (ini N_Disk_append pvs) st) :
    GmT P w K T mg base 4 (ad mg "Disk") "append" ["self", "name", "text"] (S_Disk_append mg) :=
  gT_meth (k := 3) (N := N_Disk_append) Mm F ⟨rfl, rfl, rfl, nd_Disk_append, rfl, by decide +kernel, by decide +kernel⟩ (fun _ _ _ _ _ _ us hl => match us, hl with | [_, _, _], _ => rfl) hlen (fun cdv A outer sh H E hr => ⟨t_Disk_append K mg, by unfold t_Disk_append; exact (zt_cons (PST.of (s_if (t_not (t_val (w_cg G_is_name hr (by decide) Gu.no (takes_of rfl rfl rfl rfl) (a_cons (w_var 1) a_nil)))) (z_one (s_rz rfl (takes_of rfl rfl rfl rfl) x_InvalidName hr (a_cons (w_var 1) a_nil))) z_nil)) (zt_cons (st_if (tt_not (tt_val (et_cgT G__is_text hr (by decide) (takes_of rfl rfl rfl rfl) (a_cons (w_var 2) a_nil)))) (z_one (s_rz rfl (takes_of rfl rfl rfl rfl) x_InvalidOperation hr (a_cons w_str a_nil))) z_nil) (PSsT.of (z_cons (s_if (t_w (t_and (t_cmp (op_niO G_Disk___contains__ hr (by decide)) os_inO (w_var 1) (w_var 0) rfl) (t_and1 (t_cmp (OpR.or op_eq (op_eqD (hu_of4 hr))) os_eq2 (c_lenO G_Disk___len__ hr (by decide) (fr "len" (.tail _ (.tail _ (.head _)))) (a_cons (w_var 0) a_nil)) (w_gi k_MAX_FILES) (nomark _))))) (z_one (s_rz rfl (takes_of rfl rfl rfl rfl) x_TooMany hr (a_cons (w_gi k_MAX_FILES) a_nil))) z_nil) (z_cons (s_asg nd_Disk_append rfl (.inl rfl) (w_if (t_cmp (op_inO G_Disk___contains__ hr (by decide)) os_inO (w_var 1) (w_var 0) rfl) (w_meth c_Disk G_Disk_read hr (by decide) (takes_of rfl rfl rfl rfl) (w_var 0) (a_cons (w_var 1) a_nil)) w_str)) (z_cons (s_if (t_cmp op_gt os_B0 (w_add (c_len (fr "len" (.tail _ (.tail _ (.head _)))) (a_cons (w_var 3) a_nil)) (c_len (fr "len" (.tail _ (.tail _ (.head _)))) (a_cons (w_var 2) a_nil))) (w_gi k_MAX_TEXT) (nomark _)) (z_one (s_rz rfl (takes_of rfl rfl rfl rfl) x_TooMany hr (a_cons (w_gi k_MAX_TEXT) a_nil))) z_nil) (z_cons (s_drop (w_meth0 c_Disk G_Disk__step hr (by decide) (takes_of rfl rfl rfl rfl) (w_var 0))) (z_one (s_if (t_cmp (op_inO G_Disk___contains__ hr (by decide)) os_inO (w_var 1) (w_var 0) rfl) (z_cons (s_asg nd_Disk_append rfl (.inl rfl) (w_dix (hu_of1 hr) (w_ix (w_att c_Disk n_Disk__tables (w_var 0)) (w_neg w_int)) (w_var 1))) (z_one (s_setAtt c_DiskFile n_DiskFile_text (w_var 4) (w_add (w_var 3) (w_var 2))))) (z_cons (s_asg nd_Disk_append rfl (.inl rfl) (w_meth c_Disk G_Disk__other_names hr (by decide) (takes_of rfl rfl rfl rfl) (w_var 0) (a_cons (w_var 1) a_nil))) (z_cons (s_setD (hu_of1 hr) (w_make G_DiskFile___init__ hr (by decide) (takes_of rfl rfl rfl rfl) (a_cons (w_var 2) (a_cons w_int a_nil))) (w_var 5) (w_var 1)) (z_one (s_drop (w_meth c_Disk G_Disk__with_names hr (by decide) (takes_of rfl rfl rfl rfl) (w_var 0) (a_cons (w_var 5) a_nil))))))))))))))), hp⟩)
theorem g_Disk_sync {f : Addr} {fd : FuncData} (fr : Fr mg frees) (Mm : Meth K (ad mg "Disk") "sync" f) (F : FunD K "sync" "Disk.sync" (dm 31 8).2.1 (dm 31 8).1 (dm 31 8).2.2 [] [] f fd) (c_Disk : Cls K (ad mg "Disk")) (c_DiskFile : Cls K (ad mg "DiskFile")) (G_Disk__check_file : Gm P w K T mg base 2 (ad mg "Disk") "_check_file" ["self", "name"] [] (S_Disk__check_file mg)) (G_Disk__step : Gm P w K T mg base 1 (ad mg "Disk") "_step" ["self"] [] (S_Disk__step mg)) (n_Disk__tables : NoAttr K (ad mg "Disk") "_tables") (n_DiskFile_firm_count : NoAttr K (ad mg "DiskFile") "firm_count") (n_DiskFile_text : NoAttr K (ad mg "DiskFile") "text") (hlen : ∀ pvs st Q PX, S_Disk_sync mg pvs st Q PX → pvs.length = 2) (hp : ∀ pvs st Q PX, S_Disk_sync mg pvs st Q PX → t_Disk_sync K mg (endOf Q PX) (ini N_Disk_sync pvs) st) :
    Gm P w K T mg base 3 (ad mg "Disk") "sync" ["self", "name"] [] (S_Disk_sync mg) :=
  g_meth (k := 2) (N := N_Disk_sync) Mm F ⟨rfl, rfl, rfl, nd_Disk_sync, rfl, by decide +kernel, by decide +kernel⟩ (fun _ _ _ _ _ _ us hl => match us, hl with | [_, _], _ => rfl) hlen (fun cdv A outer sh H E hr => ⟨t_Disk_sync K mg, by unfold t_Disk_sync; exact (z_cons (s_drop (w_meth c_Disk G_Disk__check_file hr (by decide) (takes_of rfl rfl rfl rfl) (w_var 0) (a_cons (w_var 1) a_nil))) (z_cons (s_drop (w_meth0 c_Disk G_Disk__step hr (by decide) (takes_of rfl rfl rfl rfl) (w_var 0))) (z_cons (s_asg nd_Disk_sync rfl (.inl rfl) (w_dix (hu_of1 hr) (w_ix (w_att c_Disk n_Disk__tables (w_var 0)) (w_neg w_int)) (w_var 1))) (z_one (s_setAtt c_DiskFile n_DiskFile_firm_count (w_var 2) (c_len (fr "len" (.tail _ (.tail _ (.head _)))) (a_cons (w_att c_DiskFile n_DiskFile_text (w_var 2)) a_nil))))))), hp⟩)
theorem g_Disk_remove {f : Addr} {fd : FuncData} (fr : Fr mg frees) (Mm : Meth K (ad mg "Disk") "remove" f) (F : FunD K "remove" "Disk.remove" (dm 31 9).2.1 (dm 31 9).1 (dm 31 9).2.2 [] [] f fd) (c_Disk : Cls K (ad mg "Disk")) (G_Disk__check_file : Gm P w K T mg base 2 (ad mg "Disk") "_check_file" ["self", "name"] [] (S_Disk__check_file mg)) (G_Disk__step : Gm P w K T mg base 1 (ad mg "Disk") "_step" ["self"] [] (S_Disk__step mg)) (G_Disk__with_names : Gm P w K T mg base 1 (ad mg "Disk") "_with_names" ["self", "table"] [] (S_Disk__with_names mg)) (G_Disk__other_names : Gm P w K T mg base 1 (ad mg "Disk") "_other_names" ["self", "name"] [] (S_Disk__other_names mg)) (hlen : ∀ pvs st Q PX, S_Disk_remove mg pvs st Q PX → pvs.length = 2) (hp : ∀ pvs st Q PX, S_Disk_remove mg pvs st Q PX → t_Disk_remove K mg (endOf Q PX) (ini N_Disk_remove pvs) st) :
    Gm P w K T mg base 3 (ad mg "Disk") "remove" ["self", "name"] [] (S_Disk_remove mg) :=
  g_meth (k := 2) (N := N_Disk_remove) Mm F ⟨rfl, rfl, rfl, nd_Disk_remove, rfl, by decide +kernel, by decide +kernel⟩ (fun _ _ _ _ _ _ us hl => match us, hl with | [_, _], _ => rfl) hlen (fun cdv A outer sh H E hr => ⟨t_Disk_remove K mg, by unfold t_Disk_remove; exact (z_cons (s_drop (w_meth c_Disk G_Disk__check_file hr (by decide) (takes_of rfl rfl rfl rfl) (w_var 0) (a_cons (w_var 1) a_nil))) (z_cons (s_drop (w_meth0 c_Disk G_Disk__step hr (by decide) (takes_of rfl rfl rfl rfl) (w_var 0))) (z_one (s_drop (w_meth c_Disk G_Disk__with_names hr (by decide) (takes_of rfl rfl rfl rfl) (w_var 0) (a_cons (w_meth c_Disk G_Disk__other_names hr (by decide) (takes_of rfl rfl rfl rfl) (w_var 0) (a_cons (w_var 1) a_nil)) a_nil)))))), hp⟩)
theorem g_Disk_rename {f : Addr} {fd : FuncData} (fr : Fr mg frees) (Mm : Meth K (ad mg "Disk") "rename" f) (F : FunD K "rename" "Disk.rename" (dm 31 10).2.1 (dm 31 10).1 (dm 31 10).2.2 [] [] f fd) (c_Disk : Cls K (ad mg "Disk")) (G_Disk__check_file : Gm P w K T mg base 2 (ad mg "Disk") "_check_file" ["self", "name"] [] (S_Disk__check_file mg)) (x_InvalidName : ExI K mg "InvalidName" "message") (G_Disk__step : Gm P w K T mg base 1 (ad mg "Disk") "_step" ["self"] [] (S_Disk__step mg)) (G_Disk__other_names : Gm P w K T mg base 1 (ad mg "Disk") "_other_names" ["self", "name"] [] (S_Disk__other_names mg)) (G_Disk__with_names : Gm P w K T mg base 1 (ad mg "Disk") "_with_names" ["self", "table"] [] (S_Disk__with_names mg)) (G_is_name : Gd P w K T mg base false 1 "is_name" ["value"] [] (S_is_name mg)) (n_Disk__tables : NoAttr K (ad mg "Disk") "_tables") (hlen : ∀ pvs st Q PX, S_Disk_rename mg pvs st Q PX → pvs.length = 3) (hp : ∀ pvs st Q PX, S_Disk_rename mg pvs st Q PX → t_Disk_rename K mg (endOf Q PX) (ini N_Disk_rename pvs) st) :
    Gm P w K T mg base 3 (ad mg "Disk") "rename" ["self", "old", "new"] [] (S_Disk_rename mg) :=
  g_meth (k := 2) (N := N_Disk_rename) Mm F ⟨rfl, rfl, rfl, nd_Disk_rename, rfl, by decide +kernel, by decide +kernel⟩ (fun _ _ _ _ _ _ us hl => match us, hl with | [_, _, _], _ => rfl) hlen (fun cdv A outer sh H E hr => ⟨t_Disk_rename K mg, by unfold t_Disk_rename; exact (z_cons (s_drop (w_meth c_Disk G_Disk__check_file hr (by decide) (takes_of rfl rfl rfl rfl) (w_var 0) (a_cons (w_var 1) a_nil))) (z_cons (s_if (t_not (t_val (w_cg G_is_name hr (by decide) Gu.no (takes_of rfl rfl rfl rfl) (a_cons (w_var 2) a_nil)))) (z_one (s_rz rfl (takes_of rfl rfl rfl rfl) x_InvalidName hr (a_cons (w_var 2) a_nil))) z_nil) (z_cons (s_drop (w_meth0 c_Disk G_Disk__step hr (by decide) (takes_of rfl rfl rfl rfl) (w_var 0))) (z_cons (s_asg nd_Disk_rename rfl (.inl rfl) (w_dix (hu_of1 hr) (w_ix (w_att c_Disk n_Disk__tables (w_var 0)) (w_neg w_int)) (w_var 1))) (z_cons (s_asg nd_Disk_rename rfl (.inl rfl) (w_meth c_Disk G_Disk__other_names hr (by decide) (takes_of rfl rfl rfl rfl) (w_var 0) (a_cons (w_var 1) a_nil))) (z_cons (s_setD (hu_of1 hr) (w_var 3) (w_var 4) (w_var 2)) (z_one (s_drop (w_meth c_Disk G_Disk__with_names hr (by decide) (takes_of rfl rfl rfl rfl) (w_var 0) (a_cons (w_var 4) a_nil)))))))))), hp⟩)
theorem g_Disk_sync_names {f : Addr} {fd : FuncData} (fr : Fr mg frees) (Mm : Meth K (ad mg "Disk") "sync_names" f) (F : FunD K "sync_names" "Disk.sync_names" (dm 31 11).2.1 (dm 31 11).1 (dm 31 11).2.2 [] [] f fd) (c_Disk : Cls K (ad mg "Disk")) (G_Disk__step : Gm P w K T mg base 1 (ad mg "Disk") "_step" ["self"] [] (S_Disk__step mg)) (n_Disk__tables : NoAttr K (ad mg "Disk") "_tables") (hlen : ∀ pvs st Q PX, S_Disk_sync_names mg pvs st Q PX → pvs.length = 1) (hp : ∀ pvs st Q PX, S_Disk_sync_names mg pvs st Q PX → t_Disk_sync_names K mg (endOf Q PX) (ini N_Disk_sync_names pvs) st) :
    Gm P w K T mg base 2 (ad mg "Disk") "sync_names" ["self"] [] (S_Disk_sync_names mg) :=
  g_meth (k := 1) (N := N_Disk_sync_names) Mm F ⟨rfl, rfl, rfl, nd_Disk_sync_names, rfl, by decide +kernel, by decide +kernel⟩ (fun _ _ _ _ _ _ us hl => match us, hl with | [_], _ => rfl) hlen (fun cdv A outer sh H E hr => ⟨t_Disk_sync_names K mg, by unfold t_Disk_sync_names; exact (z_cons (s_drop (w_meth0 c_Disk G_Disk__step hr (by decide) (takes_of rfl rfl rfl rfl) (w_var 0))) (z_one (s_setAtt c_Disk n_Disk__tables (w_var 0) (w_new (a_cons (w_ix (w_att c_Disk n_Disk__tables (w_var 0)) (w_neg w_int)) a_nil))))), hp⟩)
theorem g_Disk_read {f : Addr} {fd : FuncData} (fr : Fr mg frees) (Mm : Meth K (ad mg "Disk") "read" f) (F : FunD K "read" "Disk.read" (dm 31 12).2.1 (dm 31 12).1 (dm 31 12).2.2 [] [] f fd) (c_Disk : Cls K (ad mg "Disk")) (c_DiskFile : Cls K (ad mg "DiskFile")) (G_Disk__check_file : Gm P w K T mg base 2 (ad mg "Disk") "_check_file" ["self", "name"] [] (S_Disk__check_file mg)) (n_Disk__tables : NoAttr K (ad mg "Disk") "_tables") (n_DiskFile_text : NoAttr K (ad mg "DiskFile") "text") (hlen : ∀ pvs st Q PX, S_Disk_read mg pvs st Q PX → pvs.length = 2) (hp : ∀ pvs st Q PX, S_Disk_read mg pvs st Q PX → t_Disk_read K mg (endOf Q PX) (ini N_Disk_read pvs) st) :
    Gm P w K T mg base 3 (ad mg "Disk") "read" ["self", "name"] [] (S_Disk_read mg) :=
  g_meth (k := 2) (N := N_Disk_read) Mm F ⟨rfl, rfl, rfl, nd_Disk_read, rfl, by decide +kernel, by decide +kernel⟩ (fun _ _ _ _ _ _ us hl => match us, hl with | [_, _], _ => rfl) hlen (fun cdv A outer sh H E hr => ⟨t_Disk_read K mg, by unfold t_Disk_read; exact (z_cons (s_drop (w_meth c_Disk G_Disk__check_file hr (by decide) (takes_of rfl rfl rfl rfl) (w_var 0) (a_cons (w_var 1) a_nil))) (z_one (s_ret (w_att c_DiskFile n_DiskFile_text (w_dix (hu_of1 hr) (w_ix (w_att c_Disk n_Disk__tables (w_var 0)) (w_neg w_int)) (w_var 1)))))), hp⟩)
theorem g1_Disk_lost {f : Addr} {fd : FuncData} {dvs : List V} {kws : List (Str × V)} (fr : Fr mg frees) (Mm : Meth K (ad mg "Disk") "lost" f) (F : FunD K "lost" "Disk.lost" (dm 31 15).2.1 (dm 31 15).1 (dm 31 15).2.2 dvs kws f fd) (hdv : dvs ≠ []) (hkw : kws ≠ []) (hb : ∀ (T D : Addr) (doc pm : Value) (an : Option Addr) (cdv ct : Value) (us its ws : List Value), us.length = 2 → its.length = dvs.length → ws.length = 1 → ∃ k, bindArgs (PySem.W.fnOf "lost" "Disk.lost" (dm 31 15).2.1 (dm 31 15).1 (dm 31 15).2.2 (.ref T) (.ref D) doc pm an cdv ct) ⟨us, [("power" : Str)].zip ws⟩ = seqItems? (.ref T) >>= k ∧ KwChain D [] (k (some its.toArray)) ((["self", "choices", "power"] : List Str).zip (us ++ ws))) (c_Disk : Cls K (ad mg "Disk")) (c_DiskFile : Cls K (ad mg "DiskFile")) (x_InvalidOperation : ExI K mg "InvalidOperation" "message") (G_Disk___init__ : Gik P w K T mg base 2 "Disk" ["self", "power"] 0 ["power"] ((fun vs zs => vs ++ zs)) (S_Disk___init__ mg)) (G_Disk_put_firm : Gm P w K T mg base 3 (ad mg "Disk") "put_firm" ["self", "texts"] [] (S_Disk_put_firm mg)) (G__are_choices : Gd P w K T mg base false 5 "_are_choices" ["value"] [] (S__are_choices mg)) (G__choice_at : Gd P w K T mg base false 1 "_choice_at" ["choices", "index", "many"] [] (S__choice_at mg)) (n_Disk__tables : NoAttr K (ad mg "Disk") "_tables") (n_DiskFile_text : NoAttr K (ad mg "DiskFile") "text") (n_DiskFile_firm_count : NoAttr K (ad mg "DiskFile") "firm_count") (hlen : ∀ pvs st Q PX, S_Disk_lost mg pvs st Q PX → pvs.length = 3) (hp : ∀ pvs st Q PX, S_Disk_lost mg pvs st Q PX → t_Disk_lost K mg (endOf Q PX) (ini N_Disk_lost pvs) st) :
    Gmk P w K T mg base 6 (ad mg "Disk") "lost" ["self", "choices", "power"] 1 ["power"] ((fun vs zs => vs ++ zs)) (S_Disk_lost mg) :=
  g_methK (k := 5) (N := N_Disk_lost) Mm F (kb_pos F hdv hkw hb) ⟨rfl, rfl, rfl, nd_Disk_lost, rfl, by decide +kernel, by decide +kernel⟩ hlen (fun cdv A outer sh H E hr => ⟨t_Disk_lost K mg, by unfold t_Disk_lost; exact (z_cons (s_if (t_not (t_val (w_cg G__are_choices hr (by decide) Gu.no (takes_of rfl rfl rfl rfl) (a_cons (w_var 1) a_nil)))) (z_one (s_rz rfl (takes_of rfl rfl rfl rfl) x_InvalidOperation hr (a_cons (w_var 1) a_nil))) z_nil) (z_cons (s_asg nd_Disk_lost rfl (.inl rfl) (w_makeK0 (ks := ["power"]) G_Disk___init__ hr (by decide) (takes_of rfl rfl rfl rfl) (k_cons (w_var 2) k_nil))) (z_cons (s_asg nd_Disk_lost rfl (.inl rfl) (w_ix (w_att c_Disk n_Disk__tables (w_var 0)) (w_cg G__choice_at hr (by decide) Gu.no (takes_of rfl rfl rfl rfl) (a_cons (w_var 1) (a_cons w_int (a_cons (c_len (fr "len" (.tail _ (.tail _ (.head _)))) (a_cons (w_att c_Disk n_Disk__tables (w_var 0)) a_nil)) a_nil)))))) (z_cons (s_asg nd_Disk_lost rfl (.inl rfl) w_dnew) (z_cons (s_forI (passes_of rfl) rfl (i_enumL rfl (fr "enumerate" (.tail _ (.tail _ (.tail _ (.tail _ (.tail _ (.tail _ (.tail _ (.tail _ (.tail _ (.head _))))))))))) (a_cons (c_dsort rfl (fr "sorted" (.tail _ (.tail _ (.tail _ (.tail _ (.tail _ (.tail _ (.tail _ (.tail _ (.tail _ (.tail _ (.tail _ (.tail _ (.tail _ (.tail _ (.head _)))))))))))))))) (a_cons (w_var 4) a_nil)) a_nil)) (g_tup2 rfl nd_Disk_lost rfl (.inl rfl) rfl (.inl rfl)) (z_cons (s_asg nd_Disk_lost rfl (.inl rfl) (w_dix (hu_of1 hr) (w_var 4) (w_var 7))) (z_cons (s_asg nd_Disk_lost rfl (.inl rfl) (w_cg G__choice_at hr (by decide) Gu.no (takes_of rfl rfl rfl rfl) (a_cons (w_var 1) (a_cons (w_add (w_var 6) w_int) (a_cons (w_add (w_sub (c_len (fr "len" (.tail _ (.tail _ (.head _)))) (a_cons (w_att c_DiskFile n_DiskFile_text (w_var 8)) a_nil)) (w_att c_DiskFile n_DiskFile_firm_count (w_var 8))) w_int) a_nil))))) (z_one (s_setD (hu_of1 hr) (w_sl (w_att c_DiskFile n_DiskFile_text (w_var 8)) o_none (o_some (w_add (w_att c_DiskFile n_DiskFile_firm_count (w_var 8)) (w_var 9)))) (w_var 5) (w_var 7)))))) (z_cons (s_drop (w_meth c_Disk G_Disk_put_firm hr (by decide) (takes_of rfl rfl rfl rfl) (w_var 3) (a_cons (w_var 5) a_nil))) (z_one (s_ret (w_var 3))))))))), hp⟩)
theorem g0_Disk_lost {f : Addr} {fd : FuncData} {dvs : List V} {kws : List (Str × V)} (fr : Fr mg frees) (Mm : Meth K (ad mg "Disk") "lost" f) (F : FunD K "lost" "Disk.lost" (dm 31 15).2.1 (dm 31 15).1 (dm 31 15).2.2 dvs kws f fd) (hdv : dvs ≠ []) (hkw : kws ≠ []) (hb : ∀ (T D : Addr) (doc pm : Value) (an : Option Addr) (cdv ct : Value) (us its ws : List Value), us.length = 1 → its.length = dvs.length → ws.length = 1 → ∃ k, bindArgs (PySem.W.fnOf "lost" "Disk.lost" (dm 31 15).2.1 (dm 31 15).1 (dm 31 15).2.2 (.ref T) (.ref D) doc pm an cdv ct) ⟨us, [("power" : Str)].zip ws⟩ = seqItems? (.ref T) >>= k ∧ KwChain D [] (k (some its.toArray)) ((["self", "choices", "power"] : List Str).zip (us ++ its ++ ws))) (hdP : ∀ m H, RVs K m H dvs [PV.tup []]) (c_Disk : Cls K (ad mg "Disk")) (c_DiskFile : Cls K (ad mg "DiskFile")) (x_InvalidOperation : ExI K mg "InvalidOperation" "message") (G_Disk___init__ : Gik P w K T mg base 2 "Disk" ["self", "power"] 0 ["power"] ((fun vs zs => vs ++ zs)) (S_Disk___init__ mg)) (G_Disk_put_firm : Gm P w K T mg base 3 (ad mg "Disk") "put_firm" ["self", "texts"] [] (S_Disk_put_firm mg)) (G__are_choices : Gd P w K T mg base false 5 "_are_choices" ["value"] [] (S__are_choices mg)) (G__choice_at : Gd P w K T mg base false 1 "_choice_at" ["choices", "index", "many"] [] (S__choice_at mg)) (n_Disk__tables : NoAttr K (ad mg "Disk") "_tables") (n_DiskFile_text : NoAttr K (ad mg "DiskFile") "text") (n_DiskFile_firm_count : NoAttr K (ad mg "DiskFile") "firm_count") (hlen : ∀ pvs st Q PX, S_Disk_lost mg pvs st Q PX → pvs.length = 3) (hp : ∀ pvs st Q PX, S_Disk_lost mg pvs st Q PX → t_Disk_lost K mg (endOf Q PX) (ini N_Disk_lost pvs) st) :
    Gmk P w K T mg base 6 (ad mg "Disk") "lost" ["self", "choices", "power"] 0 ["power"] ((fun vs zs => vs ++ [PV.tup []] ++ zs)) (S_Disk_lost mg) :=
  g_methK (k := 5) (N := N_Disk_lost) Mm F (kb_dfl F [PV.tup []] hdP hdv hkw hb) ⟨rfl, rfl, rfl, nd_Disk_lost, rfl, by decide +kernel, by decide +kernel⟩ hlen (fun cdv A outer sh H E hr => ⟨t_Disk_lost K mg, by unfold t_Disk_lost; exact (z_cons (s_if (t_not (t_val (w_cg G__are_choices hr (by decide) Gu.no (takes_of rfl rfl rfl rfl) (a_cons (w_var 1) a_nil)))) (z_one (s_rz rfl (takes_of rfl rfl rfl rfl) x_InvalidOperation hr (a_cons (w_var 1) a_nil))) z_nil) (z_cons (s_asg nd_Disk_lost rfl (.inl rfl) (w_makeK0 (ks := ["power"]) G_Disk___init__ hr (by decide) (takes_of rfl rfl rfl rfl) (k_cons (w_var 2) k_nil))) (z_cons (s_asg nd_Disk_lost rfl (.inl rfl) (w_ix (w_att c_Disk n_Disk__tables (w_var 0)) (w_cg G__choice_at hr (by decide) Gu.no (takes_of rfl rfl rfl rfl) (a_cons (w_var 1) (a_cons w_int (a_cons (c_len (fr "len" (.tail _ (.tail _ (.head _)))) (a_cons (w_att c_Disk n_Disk__tables (w_var 0)) a_nil)) a_nil)))))) (z_cons (s_asg nd_Disk_lost rfl (.inl rfl) w_dnew) (z_cons (s_forI (passes_of rfl) rfl (i_enumL rfl (fr "enumerate" (.tail _ (.tail _ (.tail _ (.tail _ (.tail _ (.tail _ (.tail _ (.tail _ (.tail _ (.head _))))))))))) (a_cons (c_dsort rfl (fr "sorted" (.tail _ (.tail _ (.tail _ (.tail _ (.tail _ (.tail _ (.tail _ (.tail _ (.tail _ (.tail _ (.tail _ (.tail _ (.tail _ (.tail _ (.head _)))))))))))))))) (a_cons (w_var 4) a_nil)) a_nil)) (g_tup2 rfl nd_Disk_lost rfl (.inl rfl) rfl (.inl rfl)) (z_cons (s_asg nd_Disk_lost rfl (.inl rfl) (w_dix (hu_of1 hr) (w_var 4) (w_var 7))) (z_cons (s_asg nd_Disk_lost rfl (.inl rfl) (w_cg G__choice_at hr (by decide) Gu.no (takes_of rfl rfl rfl rfl) (a_cons (w_var 1) (a_cons (w_add (w_var 6) w_int) (a_cons (w_add (w_sub (c_len (fr "len" (.tail _ (.tail _ (.head _)))) (a_cons (w_att c_DiskFile n_DiskFile_text (w_var 8)) a_nil)) (w_att c_DiskFile n_DiskFile_firm_count (w_var 8))) w_int) a_nil))))) (z_one (s_setD (hu_of1 hr) (w_sl (w_att c_DiskFile n_DiskFile_text (w_var 8)) o_none (o_some (w_add (w_att c_DiskFile n_DiskFile_firm_count (w_var 8)) (w_var 9)))) (w_var 5) (w_var 7)))))) (z_cons (s_drop (w_meth c_Disk G_Disk_put_firm hr (by decide) (takes_of rfl rfl rfl rfl) (w_var 3) (a_cons (w_var 5) a_nil))) (z_one (s_ret (w_var 3))))))))), hp⟩)
theorem g_Disk_put_firm {f : Addr} {fd : FuncData} (fr : Fr mg frees) (Mm : Meth K (ad mg "Disk") "put_firm" f) (F : FunD K "put_firm" "Disk.put_firm" (dm 31 16).2.1 (dm 31 16).1 (dm 31 16).2.2 [] [] f fd) (c_DiskFile : Cls K (ad mg "DiskFile")) (c_Disk : Cls K (ad mg "Disk")) (G_DiskFile___init__ : Gi P w K T mg base 1 "DiskFile" ["self", "text", "firm_count"] [] (S_DiskFile___init__ mg)) (n_Disk__tables : NoAttr K (ad mg "Disk") "_tables") (hlen : ∀ pvs st Q PX, S_Disk_put_firm mg pvs st Q PX → pvs.length = 2) (hp : ∀ pvs st Q PX, S_Disk_put_firm mg pvs st Q PX → t_Disk_put_firm K mg (endOf Q PX) (ini N_Disk_put_firm pvs) st) :
    Gm P w K T mg base 3 (ad mg "Disk") "put_firm" ["self", "texts"] [] (S_Disk_put_firm mg) :=
  g_meth (k := 2) (N := N_Disk_put_firm) Mm F ⟨rfl, rfl, rfl, nd_Disk_put_firm, rfl, by decide +kernel, by decide +kernel⟩ (fun _ _ _ _ _ _ us hl => match us, hl with | [_, _], _ => rfl) hlen (fun cdv A outer sh H E hr => ⟨t_Disk_put_firm K mg, by unfold t_Disk_put_firm; exact (z_one (s_setAtt c_Disk n_Disk__tables (w_var 0) (w_new (a_cons (w_lock (w_dcI (own := [("name", 2)]) rfl nd_Disk_put_firm (i_keys (w_var 1)) (blkOk_by (N := N_Disk_put_firm) (sc := (dm 31 16).2.2) (by decide +kernel)) (fun s H C cl fp => gw_name (pg_name nd_Disk_put_firm rfl (.inl rfl))) blk_yes (fun s H C cl fp => (w_var 2)) (fun s H C cl fp => (w_make G_DiskFile___init__ hr (by decide) LamX.takes0 (a_cons (w_dix (hu_of1 hr) (w_var 1) (w_var 2)) (a_cons (c_len (fr "len" (.tail _ (.tail _ (.head _)))) (a_cons (w_dix (hu_of1 hr) (w_var 1) (w_var 2)) a_nil)) a_nil)))))) a_nil)))), hp⟩)
theorem g_Disk___contains__ {f : Addr} {fd : FuncData} (fr : Fr mg frees) (hs : PySem.W.findIn K (.ref (ad mg "Disk")) "__contains__" = some (some (.ref f))) (hf : PySem.W.isFn K (.ref f) = true) (F : FunD K "__contains__" "Disk.__contains__" (dm 31 17).2.1 (dm 31 17).1 (dm 31 17).2.2 [] [] f fd) (c_Disk : Cls K (ad mg "Disk")) (n_Disk__tables : NoAttr K (ad mg "Disk") "_tables") (hlen : ∀ pvs st Q PX, S_Disk___contains__ mg pvs st Q PX → pvs.length = 2) (hp : ∀ pvs st Q PX, S_Disk___contains__ mg pvs st Q PX → t_Disk___contains__ K mg (endOf Q PX) (ini N_Disk___contains__ pvs) st) :
    Gs P w K T mg base 1 (ad mg "Disk") "__contains__" ["self", "value"] (S_Disk___contains__ mg) :=
  g_spec (k := 0) (N := N_Disk___contains__) hs hf F ⟨rfl, rfl, rfl, nd_Disk___contains__, rfl, by decide +kernel, by decide +kernel⟩ (fun _ _ _ _ _ _ us hl => match us, hl with | [_, _], _ => rfl) hlen (fun cdv A outer sh H E hr => ⟨t_Disk___contains__ K mg, by unfold t_Disk___contains__; exact (z_one (s_ret (w_andV (w_is (c_type (fr "type" (.head _)) (a_cons (w_var 1) a_nil)) (w_type rfl (fr "str" (.tail _ (.tail _ (.tail _ (.tail _ (.tail _ (.head _))))))) bt_str)) (w_and1 (w_din (hu_of1 hr) (w_var 1) (w_ix (w_att c_Disk n_Disk__tables (w_var 0)) (w_neg w_int))))))), hp⟩)
theorem g_Disk___len__ {f : Addr} {fd : FuncData} (fr : Fr mg frees) (hs : PySem.W.findIn K (.ref (ad mg "Disk")) "__len__" = some (some (.ref f))) (hf : PySem.W.isFn K (.ref f) = true) (F : FunD K "__len__" "Disk.__len__" (dm 31 18).2.1 (dm 31 18).1 (dm 31 18).2.2 [] [] f fd) (c_Disk : Cls K (ad mg "Disk")) (n_Disk__tables : NoAttr K (ad mg "Disk") "_tables") (hlen : ∀ pvs st Q PX, S_Disk___len__ mg pvs st Q PX → pvs.length = 1) (hp : ∀ pvs st Q PX, S_Disk___len__ mg pvs st Q PX → t_Disk___len__ K mg (endOf Q PX) (ini N_Disk___len__ pvs) st) :
    Gs P w K T mg base 1 (ad mg "Disk") "__len__" ["self"] (S_Disk___len__ mg) :=
  g_spec (k := 0) (N := N_Disk___len__) hs hf F ⟨rfl, rfl, rfl, nd_Disk___len__, rfl, by decide +kernel, by decide +kernel⟩ (fun _ _ _ _ _ _ us hl => match us, hl with | [_], _ => rfl) hlen (fun cdv A outer sh H E hr => ⟨t_Disk___len__ K mg, by unfold t_Disk___len__; exact (z_one (s_ret (c_dlen (fr "len" (.tail _ (.tail _ (.head _)))) (a_cons (w_ix (w_att c_Disk n_Disk__tables (w_var 0)) (w_neg w_int)) a_nil)))), hp⟩)
theorem g_Disk___str__ {f : Addr} {fd : FuncData} (fr : Fr mg frees) (hs : PySem.W.findIn K (.ref (ad mg "Disk")) "__str__" = some (some (.ref f))) (hf : PySem.W.isFn K (.ref f) = true) (F : FunD K "__str__" "Disk.__str__" (dm 31 19).2.1 (dm 31 19).1 (dm 31 19).2.2 [] [] f fd) (c_Disk : Cls K (ad mg "Disk")) (n_Disk__steps : NoAttr K (ad mg "Disk") "_steps") (n_Disk__tables : NoAttr K (ad mg "Disk") "_tables") (hlen : ∀ pvs st Q PX, S_Disk___str__ mg pvs st Q PX → pvs.length = 1) (hp : ∀ pvs st Q PX, S_Disk___str__ mg pvs st Q PX → t_Disk___str__ K mg (endOf Q PX) (ini N_Disk___str__ pvs) st) :
    Gs P w K T mg base 1 (ad mg "Disk") "__str__" ["self"] (S_Disk___str__ mg) :=
  g_spec (k := 0) (N := N_Disk___str__) hs hf F ⟨rfl, rfl, rfl, nd_Disk___str__, rfl, by decide +kernel, by decide +kernel⟩ (fun _ _ _ _ _ _ us hl => match us, hl with | [_], _ => rfl) hlen (fun cdv A outer sh H E hr => ⟨t_Disk___str__ K mg, by unfold t_Disk___str__; exact (z_one (s_ret (w_fs (.cons w_str (.cons (w_fmt (c_dlen (fr "len" (.tail _ (.tail _ (.head _)))) (a_cons (w_ix (w_att c_Disk n_Disk__tables (w_var 0)) (w_neg w_int)) a_nil))) (.cons w_str (.cons (w_fmt (w_att c_Disk n_Disk__steps (w_var 0))) (.cons w_str .nil)))))))), hp⟩)
theorem g__law_dice (fr : Fr mg frees) (F : Fc K mg "_law_dice" (df 33) [])  (hlen : ∀ pvs st Q PX, S__law_dice mg pvs st Q PX → pvs.length = 2) (hp : ∀ pvs st Q PX, S__law_dice mg pvs st Q PX → t__law_dice K mg (endOf Q PX) (ini N__law_dice pvs) st) :
    Gd P w K T mg base false 1 "_law_dice" ["_law_script", "_law_at"] [] (S__law_dice mg) :=
  g_def (gd := false) (k := 0) (N := N__law_dice) F ⟨rfl, rfl, rfl, nd__law_dice, rfl, by decide +kernel, by decide +kernel⟩ (fun _ _ _ _ _ _ us hl => match us, hl with | [_, _], _ => rfl) hlen fun f cdv A outer sh H E hr hgd =>
    ⟨t__law_dice K mg, by unfold t__law_dice; exact (z_cons (s_asg nd__law_dice rfl (.inl rfl) (w_add (w_mul w_int (w_var 1)) w_int)) (z_cons (s_if (t_cmp op_lt os_B0 (w_var 1) (c_len (fr "len" (.tail _ (.tail _ (.head _)))) (a_cons (w_var 0) a_nil)) (nomark _)) (z_one (s_asg nd__law_dice rfl (.inl rfl) (w_ix (w_var 0) (w_var 1)))) z_nil) (z_cons (s_asg nd__law_dice rfl (.inl rfl) (w_mod (c_int (fr "int" (.tail _ (.head _))) (a_cons (c_abs (fr "abs" (.tail _ (.tail _ (.tail _ (.head _))))) (a_cons (w_var 2) a_nil)) a_nil)) (w_pow (w_pow w_int w_int) w_int))) (z_cons (s_asg nd__law_dice rfl (.inl rfl) (w_div (w_var 3) (w_pow w_int w_int))) (z_cons (s_asg nd__law_dice rfl (.inl rfl) (w_add (w_add (w_add (w_mul (w_mod (w_var 3) w_int) w_int) (w_mul w_int (w_var 1))) (w_mul w_int (c_int (fr "int" (.tail _ (.head _))) (a_cons (w_lt (w_var 2) w_int) a_nil)))) w_int)) (z_one (s_ret (w_new (a_cons (w_var 4) (a_cons (w_mod (w_var 5) w_int) (a_cons w_int a_nil))))))))))), hp⟩
theorem g__law_roll (fr : Fr mg frees) (F : Fc K mg "_law_roll" (df 34) [])  (hlen : ∀ pvs st Q PX, S__law_roll mg pvs st Q PX → pvs.length = 2) (hp : ∀ pvs st Q PX, S__law_roll mg pvs st Q PX → t__law_roll K mg (endOf Q PX) (ini N__law_roll pvs) st) :
    Gd P w K T mg base false 1 "_law_roll" ["_law_dice_here", "_law_total"] [] (S__law_roll mg) :=
  g_def (gd := false) (k := 0) (N := N__law_roll) F ⟨rfl, rfl, rfl, nd__law_roll, rfl, by decide +kernel, by decide +kernel⟩ (fun _ _ _ _ _ _ us hl => match us, hl with | [_, _], _ => rfl) hlen fun f cdv A outer sh H E hr hgd =>
    ⟨t__law_roll K mg, by unfold t__law_roll; exact (z_cons (s_asg nd__law_roll rfl (.inl rfl) (c_int (fr "int" (.tail _ (.head _))) (a_cons (w_var 1) a_nil))) (z_cons (s_if (t_cmp op_gt os_B0 (w_ix (w_var 0) w_int) w_int (nomark _)) (z_cons (s_asg nd__law_roll rfl (.inl rfl) (w_mod (w_ix (w_var 0) w_int) (w_var 2))) (z_cons (s_setIx (w_div (w_ix (w_var 0) w_int) (w_var 2)) (w_var 0) w_int) (z_one (s_ret (c_int (fr "int" (.tail _ (.head _))) (a_cons (w_var 5) a_nil)))))) z_nil) (z_cons (s_setIx (w_add (w_ix (w_var 0) w_int) w_int) (w_var 0) w_int) (z_cons (s_asg nd__law_roll rfl (.inl rfl) (w_mod (w_add (w_ix (w_var 0) w_int) (w_mul w_int (w_ix (w_var 0) w_int))) w_int)) (z_cons (s_asg nd__law_roll rfl (.inl rfl) (w_add (w_mul (w_mod (w_mul (w_var 3) (w_var 3)) w_int) (w_var 3)) (w_mul w_int (w_ix (w_var 0) w_int)))) (z_cons (s_asg nd__law_roll rfl (.inl rfl) (w_mod (w_var 4) w_int)) (z_one (s_ret (c_int (fr "int" (.tail _ (.head _))) (a_cons (w_mod (w_div (w_var 4) w_int) (w_var 2)) a_nil)))))))))), hp⟩
theorem g__law_one_of (fr : Fr mg frees) (F : Fc K mg "_law_one_of" (df 35) []) (G__law_roll : Gd P w K T mg base false 1 "_law_roll" ["_law_dice_here", "_law_total"] [] (S__law_roll mg)) (hlen : ∀ pvs st Q PX, S__law_one_of mg pvs st Q PX → pvs.length = 2) (hp : ∀ pvs st Q PX, S__law_one_of mg pvs st Q PX → t__law_one_of K mg (endOf Q PX) (ini N__law_one_of pvs) st) :
    Gd P w K T mg base false 2 "_law_one_of" ["_law_dice_here", "_law_items"] [] (S__law_one_of mg) :=
  g_def (gd := false) (k := 1) (N := N__law_one_of) F ⟨rfl, rfl, rfl, nd__law_one_of, rfl, by decide +kernel, by decide +kernel⟩ (fun _ _ _ _ _ _ us hl => match us, hl with | [_, _], _ => rfl) hlen fun f cdv A outer sh H E hr hgd =>
    ⟨t__law_one_of K mg, by unfold t__law_one_of; exact (z_one (s_ret (w_ix (w_var 1) (w_cg G__law_roll hr (by decide) Gu.no (takes_of rfl rfl rfl rfl) (a_cons (w_var 0) (a_cons (c_len (fr "len" (.tail _ (.tail _ (.head _)))) (a_cons (w_var 1) a_nil)) a_nil)))))), hp⟩
theorem g__law_new (fr : Fr mg frees) (F : Fc K mg "_law_new" (df 37) [])  (hlen : ∀ pvs st Q PX, S__law_new mg pvs st Q PX → pvs.length = 1) (hp : ∀ pvs st Q PX, S__law_new mg pvs st Q PX → t__law_new K mg (endOf Q PX) (ini N__law_new pvs) st) :
    Gd P w K T mg base false 1 "_law_new" ["_law_power"] [] (S__law_new mg) :=
  g_def (gd := false) (k := 0) (N := N__law_new) F ⟨rfl, rfl, rfl, nd__law_new, rfl, by decide +kernel, by decide +kernel⟩ (fun _ _ _ _ _ _ us hl => match us, hl with | [_], _ => rfl) hlen fun f cdv A outer sh H E hr hgd =>
    ⟨t__law_new K mg, by unfold t__law_new; exact (z_one (s_ret (w_new (a_cons w_dnew (a_cons (w_new a_nil) (a_cons w_dnew (a_cons w_int (a_cons (w_var 0) a_nil)))))))), hp⟩
theorem g__law_names (fr : Fr mg frees) (F : Fc K mg "_law_names" (df 38) [])  (hlen : ∀ pvs st Q PX, S__law_names mg pvs st Q PX → pvs.length = 2) (hp : ∀ pvs st Q PX, S__law_names mg pvs st Q PX → t__law_names K mg (endOf Q PX) (ini N__law_names pvs) st) :
    Gd P w K T mg base false 1 "_law_names" ["_law_own", "_law_many"] [] (S__law_names mg) :=
  g_def (gd := false) (k := 0) (N := N__law_names) F ⟨rfl, rfl, rfl, nd__law_names, rfl, by decide +kernel, by decide +kernel⟩ (fun _ _ _ _ _ _ us hl => match us, hl with | [_, _], _ => rfl) hlen fun f cdv A outer sh H E hr hgd =>
    ⟨t__law_names K mg, by unfold t__law_names; exact (z_cons (s_asg nd__law_names rfl (.inl rfl) (c_dcopy (fr "dict" (.tail _ (.tail _ (.tail _ (.tail _ (.tail _ (.tail _ (.tail _ (.tail _ (.tail _ (.tail _ (.tail _ (.tail _ (.tail _ (.head _))))))))))))))) (a_cons (w_ix (w_var 0) w_int) a_nil))) (z_cons (s_forI (passes_of rfl) rfl (i_seq (w_sl (w_ix (w_var 0) w_int) o_none (o_some (w_var 1)))) (g_tup3 rfl (pg_name nd__law_names rfl (.inl rfl)) (pg_name nd__law_names rfl (.inl rfl)) (pg_name nd__law_names rfl (.inl rfl))) (z_one (s_if (t_cmp (OpR.or op_eq (op_eqD (hu_of4 hr))) os_eq2 (w_var 3) w_str (nomark _)) (z_one (s_setD (hu_of1 hr) (w_var 5) (w_var 2) (w_var 4))) (z_one (s_if (t_cmp (OpR.or op_eq (op_eqD (hu_of4 hr))) os_eq2 (w_var 3) w_str (nomark _)) (z_one (s_drop (w_dpop (w_var 2) (w_var 4)))) (z_one (s_setD (hu_of1 hr) (w_dpop (w_var 2) (w_var 4)) (w_var 2) (w_var 5)))))))) (z_one (s_ret (w_var 2))))), hp⟩
theorem g__law_step (fr : Fr mg frees) (F : Fc K mg "_law_step" (df 39) []) (G__law_names : Gd P w K T mg base false 1 "_law_names" ["_law_own", "_law_many"] [] (S__law_names mg)) (G__law_is_name : Gd P w K T mg base false 1 "_law_is_name" ["_law_value"] [] (S__law_is_name mg)) (hlen : ∀ pvs st Q PX, S__law_step mg pvs st Q PX → pvs.length = 2) (hp : ∀ pvs st Q PX, S__law_step mg pvs st Q PX → t__law_step K mg (endOf Q PX) (ini N__law_step pvs) st) :
    Gd P w K T mg base false 2 "_law_step" ["_law_own", "_law_deed"] [] (S__law_step mg) :=
  g_def (gd := false) (k := 1) (N := N__law_step) F ⟨rfl, rfl, rfl, nd__law_step, rfl, by decide +kernel, by decide +kernel⟩ (fun _ _ _ _ _ _ us hl => match us, hl with | [_, _], _ => rfl) hlen fun f cdv A outer sh H E hr hgd =>
    ⟨t__law_step K mg, by unfold t__law_step; exact (z_cons (s_asgG (w_var 1) (g_tup3 rfl (pg_name nd__law_step rfl (.inl rfl)) (pg_name nd__law_step rfl (.inl rfl)) (pg_name nd__law_step rfl (.inl rfl)))) (z_cons (s_asg nd__law_step rfl (.inl rfl) (w_cg G__law_names hr (by decide) Gu.no (takes_of rfl rfl rfl rfl) (a_cons (w_var 0) (a_cons (c_len (fr "len" (.tail _ (.tail _ (.head _)))) (a_cons (w_ix (w_var 0) w_int) a_nil)) a_nil)))) (z_cons (s_if (t_w (t_and (t_cmp (OpR.or op_eq (op_eqD (hu_of4 hr))) os_eq2 (w_var 3) w_str (nomark _)) (t_and1 (t_not (t_val (w_cg G__law_is_name hr (by decide) Gu.no (takes_of rfl rfl rfl rfl) (a_cons (w_var 4) a_nil))))))) (z_one (s_ret (w_tup (a_cons w_str a_nil)))) z_nil) (z_cons (s_if (t_w (t_and (t_cmp op_in_seq os_inT (w_var 3) (w_tup (a_cons w_str (a_cons w_str (a_cons w_str a_nil)))) rfl) (t_and1 (t_cmp (op_dni (hu_of1 hr)) os_din (w_var 4) (w_var 2) rfl)))) (z_one (s_ret (w_tup (a_cons w_str (a_cons (w_var 4) a_nil))))) z_nil) (z_cons (s_if (t_w (t_and (t_cmp (OpR.or op_eq (op_eqD (hu_of4 hr))) os_eq2 (w_var 3) w_str (nomark _)) (t_and1 (t_not (t_val (c_isStr (fr "isinstance" (.tail _ (.tail _ (.tail _ (.tail _ (.tail _ (.tail _ (.tail _ (.tail _ (.tail _ (.tail _ (.tail _ (.tail _ (.head _)))))))))))))) (a_cons (w_var 5) (a_cons (w_type rfl (fr "str" (.tail _ (.tail _ (.tail _ (.tail _ (.tail _ (.head _))))))) bt_str) a_nil)))))))) (z_one (s_ret (w_tup (a_cons w_str a_nil)))) z_nil) (z_cons (s_if (t_w (t_and (t_cmp (OpR.or op_eq (op_eqD (hu_of4 hr))) os_eq2 (w_var 3) w_str (nomark _)) (t_and (t_cmp (op_dni (hu_of1 hr)) os_din (w_var 4) (w_var 2) rfl) (t_and1 (t_cmp (OpR.or op_eq (op_eqD (hu_of4 hr))) os_eq2 (c_dlen (fr "len" (.tail _ (.tail _ (.head _)))) (a_cons (w_var 2) a_nil)) w_int (nomark _)))))) (z_one (s_ret (w_tup (a_cons w_str (a_cons w_int a_nil))))) z_nil) (z_cons (s_if (t_w (t_and (t_cmp (OpR.or op_eq (op_eqD (hu_of4 hr))) os_eq2 (w_var 3) w_str (nomark _)) (t_and1 (t_not (t_val (w_cg G__law_is_name hr (by decide) Gu.no (takes_of rfl rfl rfl rfl) (a_cons (w_var 5) a_nil))))))) (z_one (s_ret (w_tup (a_cons w_str a_nil)))) z_nil) (z_cons (s_if (t_w (t_and (t_cmp (OpR.or op_notN op_notTyB) os_isnot (w_ix (w_var 0) w_int) w_non (nomark _)) (t_and1 (t_cmp op_ge os_B0 (w_ix (w_var 0) w_int) (w_ix (w_var 0) w_int) (nomark _))))) (z_one (s_ret (w_tup (a_cons w_str (a_cons (w_ix (w_var 0) w_int) a_nil))))) z_nil) (z_cons (s_setIx (w_add (w_ix (w_var 0) w_int) w_int) (w_var 0) w_int) (z_cons (s_if (t_cmp (OpR.or op_eq (op_eqD (hu_of4 hr))) os_eq2 (w_var 3) w_str (nomark _)) (z_cons (s_if (t_cmp (op_dni (hu_of1 hr)) os_din (w_var 4) (w_var 2) rfl) (z_cons (s_setD (hu_of1 hr) (w_new (a_cons w_str (a_cons w_int a_nil))) (w_ix (w_var 0) w_int) (c_dlen (fr "len" (.tail _ (.tail _ (.head _)))) (a_cons (w_ix (w_var 0) w_int) a_nil))) (z_one (s_drop (w_app (w_ix (w_var 0) w_int) (a_cons (w_tup (a_cons w_str (a_cons (w_var 4) (a_cons (w_sub (c_dlen (fr "len" (.tail _ (.tail _ (.head _)))) (a_cons (w_ix (w_var 0) w_int) a_nil)) w_int) a_nil)))) a_nil))))) z_nil) (z_cons (s_asg nd__law_step rfl (.inl rfl) (w_dix (hu_of1 hr) (w_ix (w_var 0) w_int) (w_dix (hu_of1 hr) (w_cg G__law_names hr (by decide) Gu.no (takes_of rfl rfl rfl rfl) (a_cons (w_var 0) (a_cons (c_len (fr "len" (.tail _ (.tail _ (.head _)))) (a_cons (w_ix (w_var 0) w_int) a_nil)) a_nil))) (w_var 4)))) (z_one (s_setIx (w_add (w_ix (w_var 6) w_int) (w_var 5)) (w_var 6) w_int)))) (z_one (s_if (t_cmp (OpR.or op_eq (op_eqD (hu_of4 hr))) os_eq2 (w_var 3) w_str (nomark _)) (z_one (s_setIx (c_len (fr "len" (.tail _ (.tail _ (.head _)))) (a_cons (w_ix (w_dix (hu_of1 hr) (w_ix (w_var 0) w_int) (w_dix (hu_of1 hr) (w_var 2) (w_var 4))) w_int) a_nil)) (w_dix (hu_of1 hr) (w_ix (w_var 0) w_int) (w_dix (hu_of1 hr) (w_var 2) (w_var 4))) w_int)) (z_one (s_if (t_cmp (OpR.or op_eq (op_eqD (hu_of4 hr))) os_eq2 (w_var 3) w_str (nomark _)) (z_one (s_parIx2 rfl (w_var 2) (w_new a_nil) (w_var 0) w_int (w_var 0) w_int)) (z_one (s_drop (w_app (w_ix (w_var 0) w_int) (a_cons (w_tup (a_cons (w_var 3) (a_cons (w_var 4) (a_cons (w_var 5) a_nil)))) a_nil))))))))) (z_one (s_ret (w_tup (a_cons w_str (a_cons w_non a_nil))))))))))))))), hp⟩
theorem g__law_is_name (fr : Fr mg frees) (F : Fc K mg "_law_is_name" (df 40) [])  (hlen : ∀ pvs st Q PX, S__law_is_name mg pvs st Q PX → pvs.length = 1) (hp : ∀ pvs st Q PX, S__law_is_name mg pvs st Q PX → t__law_is_name K mg (endOf Q PX) (ini N__law_is_name pvs) st) :
    Gd P w K T mg base false 1 "_law_is_name" ["_law_value"] [] (S__law_is_name mg) :=
  g_def (gd := false) (k := 0) (N := N__law_is_name) F ⟨rfl, rfl, rfl, nd__law_is_name, rfl, by decide +kernel, by decide +kernel⟩ (fun _ _ _ _ _ _ us hl => match us, hl with | [_], _ => rfl) hlen fun f cdv A outer sh H E hr hgd =>
    ⟨t__law_is_name K mg, by unfold t__law_is_name; exact (z_cons (s_if (t_w (t_or (t_not (t_val (c_isStr (fr "isinstance" (.tail _ (.tail _ (.tail _ (.tail _ (.tail _ (.tail _ (.tail _ (.tail _ (.tail _ (.tail _ (.tail _ (.tail _ (.head _)))))))))))))) (a_cons (w_var 0) (a_cons (w_type rfl (fr "str" (.tail _ (.tail _ (.tail _ (.tail _ (.tail _ (.head _))))))) bt_str) a_nil))))) (t_or (t_not (t_chain op_le op_le os_B0 os_B0 w_int (c_len (fr "len" (.tail _ (.tail _ (.head _)))) (a_cons (w_var 0) a_nil)) w_int)) (t_or1 (t_cmp op_notIn_sign os_niS (w_ix (w_var 0) w_int) w_str rfl))))) (z_one (s_ret w_bl)) z_nil) (z_one (s_ret (w_eq2 (hu_of4 hr) (w_lcS rfl nd__law_is_name (w_var 0) (blkOk_by (N := N__law_is_name) (sc := (df 40).2.2) (by decide +kernel)) (fun s H C cl fp => pg_name nd__law_is_name rfl (.inl rfl)) (blk_if fun s H C cl fp => (t_cmp op_notIn_sign os_niS (w_var 1) w_str rfl)) (fun s H C cl fp => (w_var 1))) (w_lst a_nil))))), hp⟩
theorem g__law_lost (fr : Fr mg frees) (F : Fc K mg "_law_lost" (df 41) []) (G__law_names : Gd P w K T mg base false 1 "_law_names" ["_law_own", "_law_many"] [] (S__law_names mg)) (G__law_new : Gd P w K T mg base false 1 "_law_new" ["_law_power"] [] (S__law_new mg)) (hlen : ∀ pvs st Q PX, S__law_lost mg pvs st Q PX → pvs.length = 3) (hp : ∀ pvs st Q PX, S__law_lost mg pvs st Q PX → t__law_lost K mg (endOf Q PX) (ini N__law_lost pvs) st) :
    Gd P w K T mg base false 2 "_law_lost" ["_law_own", "_law_choices", "_law_power"] [] (S__law_lost mg) :=
  g_def (gd := false) (k := 1) (N := N__law_lost) F ⟨rfl, rfl, rfl, nd__law_lost, rfl, by decide +kernel, by decide +kernel⟩ (fun _ _ _ _ _ _ us hl => match us, hl with | [_, _, _], _ => rfl) hlen fun f cdv A outer sh H E hr hgd =>
    ⟨t__law_lost K mg, by unfold t__law_lost; exact (z_cons (s_asg nd__law_lost rfl (.inl rfl) (w_add2 (c_listH rfl (fr "list" (.tail _ (.tail _ (.tail _ (.tail _ (.tail _ (.tail _ (.tail _ (.tail _ (.head _)))))))))) (a_cons (w_var 1) a_nil)) (w_repN (w_new (a_cons w_int a_nil)) w_int))) (z_cons (s_par rfl nd__law_lost rfl rfl (by decide) rfl rfl (w_cg G__law_names hr (by decide) Gu.no (takes_of rfl rfl rfl rfl) (a_cons (w_var 0) (a_cons (w_mod (w_ix (w_var 3) w_int) (w_add (c_len (fr "len" (.tail _ (.tail _ (.head _)))) (a_cons (w_ix (w_var 0) w_int) a_nil)) w_int)) a_nil))) (w_cg G__law_new hr (by decide) Gu.no (takes_of rfl rfl rfl rfl) (a_cons (w_var 2) a_nil))) (z_cons (s_forI (passes_of rfl) rfl (i_enumL rfl (fr "enumerate" (.tail _ (.tail _ (.tail _ (.tail _ (.tail _ (.tail _ (.tail _ (.tail _ (.tail _ (.head _))))))))))) (a_cons (c_dsort rfl (fr "sorted" (.tail _ (.tail _ (.tail _ (.tail _ (.tail _ (.tail _ (.tail _ (.tail _ (.tail _ (.tail _ (.tail _ (.tail _ (.tail _ (.tail _ (.head _)))))))))))))))) (a_cons (w_var 4) a_nil)) a_nil)) (g_tup2 rfl nd__law_lost rfl (.inl rfl) rfl (.inl rfl)) (z_cons (s_asgG (w_dix (hu_of1 hr) (w_ix (w_var 0) w_int) (w_dix (hu_of1 hr) (w_var 4) (w_var 7))) (g_unl2 rfl nd__law_lost rfl (.inl rfl) rfl (.inl rfl))) (z_cons (s_asg nd__law_lost rfl (.inl rfl) (w_sl (w_var 8) o_none (o_some (w_add (w_var 9) (w_mod (w_ix (w_var 3) (w_add (w_var 6) w_int)) (w_add (w_sub (c_len (fr "len" (.tail _ (.tail _ (.head _)))) (a_cons (w_var 8) a_nil)) (w_var 9)) w_int)))))) (z_cons (s_setD (hu_of1 hr) (w_new (a_cons (w_var 8) (a_cons (c_len (fr "len" (.tail _ (.tail _ (.head _)))) (a_cons (w_var 8) a_nil)) a_nil))) (w_ix (w_var 5) w_int) (w_var 6)) (z_one (s_setD (hu_of1 hr) (w_var 6) (w_ix (w_var 5) w_int) (w_var 7))))))) (z_one (s_ret (w_var 5)))))), hp⟩
theorem g__law_done (fr : Fr mg frees) (F : FcL K mg base T "_law_done" (df 42)) (M : MetF K mg) (c_Disk : Cls K (ad mg "Disk")) (G_Disk_append : GmT P w K T mg base 4 (ad mg "Disk") "append" ["self", "name", "text"] (S_Disk_append mg)) (G_Disk_sync : Gm P w K T mg base 3 (ad mg "Disk") "sync" ["self", "name"] [] (S_Disk_sync mg)) (G_Disk_remove : Gm P w K T mg base 3 (ad mg "Disk") "remove" ["self", "name"] [] (S_Disk_remove mg)) (G_Disk_sync_names : Gm P w K T mg base 2 (ad mg "Disk") "sync_names" ["self"] [] (S_Disk_sync_names mg)) (G_Disk_rename : Gm P w K T mg base 3 (ad mg "Disk") "rename" ["self", "old", "new"] [] (S_Disk_rename mg)) (hlen : ∀ pvs st Q PX, S__law_done mg pvs st Q PX → pvs.length = 2) (hp : ∀ pvs st Q PX, S__law_done mg pvs st Q PX → t__law_done K mg (endOf Q PX) (ini N__law_done pvs) st) :
    Gd P w K T mg base false 7 "_law_done" ["_law_disk", "_law_deed"] [] (S__law_done mg) :=
  g_defL (gd := false) (k := 6) (N := N__law_done) F ⟨rfl, rfl, rfl, nd__law_done, rfl, by decide +kernel, by decide +kernel⟩ (fun _ _ _ _ _ _ us hl => match us, hl with | [_, _], _ => rfl) hlen fun f cdv c Pt A outer sh H E hr hgd hcode TB hmT hu =>
    ⟨t__law_done K mg, by unfold t__law_done; exact (z_cons (s_asgG (w_var 1) (g_tup3 rfl (pg_name nd__law_done rfl (.inr rfl)) (pg_name nd__law_done rfl (.inr rfl)) (pg_name nd__law_done rfl (.inr rfl)))) (z_cons (s_if (t_cmp (OpR.or op_eq (op_eqD (hu_of4 hr))) os_eq2 (w_var 2) w_str (nomark _)) (z_one (s_ret (L_giveK (k := 4) M hcode TB hmT hu (by decide) hr (LamX.lamS_by (sc := (df 42).2.2) (by decide +kernel)) rfl (fun _ _ _ _ _ => rfl) (fun A outer s H E fl c' hr => (et_meth c_Disk G_Disk_append hr (by decide) (takes_of rfl rfl rfl rfl) (w_var 0) (a_cons (w_var 3) (a_cons (w_var 4) a_nil))))))) z_nil) (z_cons (s_if (t_cmp (OpR.or op_eq (op_eqD (hu_of4 hr))) os_eq2 (w_var 2) w_str (nomark _)) (z_one (s_ret (L_give (k := 3) M hcode TB hmT hu (by decide) hr (LamX.lamS_by (sc := (df 42).2.2) (by decide +kernel)) rfl (fun _ _ _ _ _ => rfl) (fun A outer s H E fl c' hr => (w_meth c_Disk G_Disk_sync hr (by decide) (takes_of rfl rfl rfl rfl) (w_var 0) (a_cons (w_var 3) a_nil)))))) z_nil) (z_cons (s_if (t_cmp (OpR.or op_eq (op_eqD (hu_of4 hr))) os_eq2 (w_var 2) w_str (nomark _)) (z_one (s_ret (L_give (k := 3) M hcode TB hmT hu (by decide) hr (LamX.lamS_by (sc := (df 42).2.2) (by decide +kernel)) rfl (fun _ _ _ _ _ => rfl) (fun A outer s H E fl c' hr => (w_meth c_Disk G_Disk_remove hr (by decide) (takes_of rfl rfl rfl rfl) (w_var 0) (a_cons (w_var 3) a_nil)))))) z_nil) (z_one (s_ret (L_give (k := 3) M hcode TB hmT hu (by decide) hr (LamX.lamS_by (sc := (df 42).2.2) (by decide +kernel)) rfl (fun _ _ _ _ _ => rfl) (fun A outer s H E fl c' hr => (w_if (t_cmp (OpR.or op_eq (op_eqD (hu_of4 hr))) os_eq2 (w_var 2) w_str (nomark _)) (w_meth0 c_Disk G_Disk_sync_names hr (by decide) (takes_of rfl rfl rfl rfl) (w_var 0)) (w_meth c_Disk G_Disk_rename hr (by decide) (takes_of rfl rfl rfl rfl) (w_var 0) (a_cons (w_var 3) (a_cons (w_var 4) a_nil)))))))))))), hp⟩
theorem g__law_is_like (fr : Fr mg frees) (F : Fc K mg "_law_is_like" (df 43) []) (c_Disk : Cls K (ad mg "Disk")) (G__law_names : Gd P w K T mg base false 1 "_law_names" ["_law_own", "_law_many"] [] (S__law_names mg)) (G_Disk___contains__ : Gs P w K T mg base 1 (ad mg "Disk") "__contains__" ["self", "value"] (S_Disk___contains__ mg)) (G_Disk___str__ : Gs P w K T mg base 1 (ad mg "Disk") "__str__" ["self"] (S_Disk___str__ mg)) (G_Disk_names : Gp P w K T mg base 1 (ad mg "Disk") "names" (S_Disk_names mg)) (G_Disk_steps : Gp P w K T mg base 1 (ad mg "Disk") "steps" (S_Disk_steps mg)) (G_Disk___len__ : Gs P w K T mg base 1 (ad mg "Disk") "__len__" ["self"] (S_Disk___len__ mg)) (G_Disk_read : Gm P w K T mg base 3 (ad mg "Disk") "read" ["self", "name"] [] (S_Disk_read mg)) (hlen : ∀ pvs st Q PX, S__law_is_like mg pvs st Q PX → pvs.length = 2) (hp : ∀ pvs st Q PX, S__law_is_like mg pvs st Q PX → t__law_is_like K mg (endOf Q PX) (ini N__law_is_like pvs) st) :
    Gd P w K T mg base false 4 "_law_is_like" ["_law_disk", "_law_own"] [] (S__law_is_like mg) :=
  g_def (gd := false) (k := 3) (N := N__law_is_like) F ⟨rfl, rfl, rfl, nd__law_is_like, rfl, by decide +kernel, by decide +kernel⟩ (fun _ _ _ _ _ _ us hl => match us, hl with | [_, _], _ => rfl) hlen fun f cdv A outer sh H E hr hgd =>
    ⟨t__law_is_like K mg, by unfold t__law_is_like; exact (z_cons (s_asg nd__law_is_like rfl (.inr rfl) (w_cg G__law_names hr (by decide) Gu.no (takes_of rfl rfl rfl rfl) (a_cons (w_var 1) (a_cons (c_len (fr "len" (.tail _ (.tail _ (.head _)))) (a_cons (w_ix (w_var 1) w_int) a_nil)) a_nil)))) (z_cons (s_if (t_w (t_or (t_cmp (OpR.or op_ne (op_neD (hu_of4 hr))) os_ne2 (w_prop c_Disk G_Disk_names hr (by decide) (w_var 0)) (c_tuple (fr "tuple" (.tail _ (.tail _ (.tail _ (.tail _ (.tail _ (.tail _ (.tail _ (.tail _ (.tail _ (.tail _ (.head _)))))))))))) (a_cons (c_dsort rfl (fr "sorted" (.tail _ (.tail _ (.tail _ (.tail _ (.tail _ (.tail _ (.tail _ (.tail _ (.tail _ (.tail _ (.tail _ (.tail _ (.tail _ (.tail _ (.head _)))))))))))))))) (a_cons (w_var 2) a_nil)) a_nil)) (nomark _)) (t_or (t_cmp (OpR.or op_ne (op_neD (hu_of4 hr))) os_ne2 (w_prop c_Disk G_Disk_steps hr (by decide) (w_var 0)) (w_ix (w_var 1) w_int) (nomark _)) (t_or1 (t_cmp (OpR.or op_ne (op_neD (hu_of4 hr))) os_ne2 (c_lenO G_Disk___len__ hr (by decide) (fr "len" (.tail _ (.tail _ (.head _)))) (a_cons (w_var 0) a_nil)) (c_dlen (fr "len" (.tail _ (.tail _ (.head _)))) (a_cons (w_var 2) a_nil)) (nomark _)))))) (z_one (s_ret w_bl)) z_nil) (z_cons (s_if (t_cmp (OpR.or op_ne (op_neD (hu_of4 hr))) os_ne2 (w_lock (w_lcI (own := [("_law_name", 3)]) rfl nd__law_is_like (i_keys (w_var 2)) (blkOk_by (N := N__law_is_like) (sc := (df 43).2.2) (by decide +kernel)) (fun s H C cl fp => gw_name (pg_name nd__law_is_like rfl (.inl rfl))) (blk_if fun s H C cl fp => (t_cmp (OpR.or op_ne (op_neD (hu_of4 hr))) os_ne2 (w_meth c_Disk G_Disk_read hr (by decide) LamX.takes0 (w_var 0) (a_cons (w_var 3) a_nil)) (w_ix (w_dix (hu_of1 hr) (w_ix (w_var 1) w_int) (w_dix (hu_of1 hr) (w_var 2) (w_var 3))) w_int) (nomark _))) (fun s H C cl fp => (w_var 3)))) (w_lst a_nil) (nomark _)) (z_one (s_ret w_bl)) z_nil) (z_cons (s_if (t_w (t_or (t_cmp (op_inO G_Disk___contains__ hr (by decide)) os_inO w_str (w_var 0) rfl) (t_or1 (t_cmp (OpR.or op_ne (op_neD (hu_of4 hr))) os_ne2 (w_lock (w_lcI (own := [("_law_name", 3)]) rfl nd__law_is_like (i_keys (w_var 2)) (blkOk_by (N := N__law_is_like) (sc := (df 43).2.2) (by decide +kernel)) (fun s H C cl fp => gw_name (pg_name nd__law_is_like rfl (.inl rfl))) (blk_if fun s H C cl fp => (t_cmp (op_niO G_Disk___contains__ hr (by decide)) os_inO (w_var 3) (w_var 0) rfl)) (fun s H C cl fp => (w_var 3)))) (w_lst a_nil) (nomark _))))) (z_one (s_ret w_bl)) z_nil) (z_one (s_ret (w_eq2 (hu_of4 hr) (c_strO G_Disk___str__ hr (by decide) (fr "str" (.tail _ (.tail _ (.tail _ (.tail _ (.tail _ (.head _))))))) (a_cons (w_var 0) a_nil)) (w_add (w_add (w_add (w_add w_str (c_str (fr "str" (.tail _ (.tail _ (.tail _ (.tail _ (.tail _ (.head _))))))) (a_cons (c_dlen (fr "len" (.tail _ (.tail _ (.head _)))) (a_cons (w_var 2) a_nil)) a_nil))) w_str) (c_str (fr "str" (.tail _ (.tail _ (.tail _ (.tail _ (.tail _ (.head _))))))) (a_cons (w_ix (w_var 1) w_int) a_nil))) w_str)))))))), hp⟩
theorem g__law_disks_right (fr : Fr mg frees) (F : FcL K mg base T "_law_disks_right" (df 44)) (M : MetF K mg) (c_Disk : Cls K (ad mg "Disk")) (G_Disk___init__ : Gik P w K T mg base 2 "Disk" ["self", "power"] 0 ["power"] ((fun vs zs => vs ++ zs)) (S_Disk___init__ mg)) (G__law_one_of : Gd P w K T mg base false 2 "_law_one_of" ["_law_dice_here", "_law_items"] [] (S__law_one_of mg)) (G__law_roll : Gd P w K T mg base false 1 "_law_roll" ["_law_dice_here", "_law_total"] [] (S__law_roll mg)) (G__law_new : Gd P w K T mg base false 1 "_law_new" ["_law_power"] [] (S__law_new mg)) (G1_Disk_lost : Gmk P w K T mg base 6 (ad mg "Disk") "lost" ["self", "choices", "power"] 1 ["power"] ((fun vs zs => vs ++ zs)) (S_Disk_lost mg)) (G__law_is_like : Gd P w K T mg base false 4 "_law_is_like" ["_law_disk", "_law_own"] [] (S__law_is_like mg)) (G0_Disk_lost : Gmk P w K T mg base 6 (ad mg "Disk") "lost" ["self", "choices", "power"] 0 ["power"] ((fun vs zs => vs ++ [PV.tup []] ++ zs)) (S_Disk_lost mg)) (G_Disk_read : Gm P w K T mg base 3 (ad mg "Disk") "read" ["self", "name"] [] (S_Disk_read mg)) (G__law_lost : Gd P w K T mg base false 2 "_law_lost" ["_law_own", "_law_choices", "_law_power"] [] (S__law_lost mg)) (G__law_done : Gd P w K T mg base false 7 "_law_done" ["_law_disk", "_law_deed"] [] (S__law_done mg)) (G__law_step : Gd P w K T mg base false 2 "_law_step" ["_law_own", "_law_deed"] [] (S__law_step mg)) (hlen : ∀ pvs st Q PX, S__law_disks_right mg pvs st Q PX → pvs.length = 1) (hp : ∀ pvs st Q PX, S__law_disks_right mg pvs st Q PX → t__law_disks_right K mg (endOf Q PX) (ini N__law_disks_right pvs) st) :
    Gd P w K T mg base false 10 "_law_disks_right" ["_law_dice_here"] [] (S__law_disks_right mg) :=
  g_defL (gd := false) (k := 9) (N := N__law_disks_right) F ⟨rfl, rfl, rfl, nd__law_disks_right, rfl, by decide +kernel, by decide +kernel⟩ (fun _ _ _ _ _ _ us hl => match us, hl with | [_], _ => rfl) hlen fun f cdv c Pt A outer sh H E hr hgd hcode TB hmT hu =>
    ⟨t__law_disks_right K mg, by unfold t__law_disks_right; exact (z_cons (s_asg nd__law_disks_right rfl (.inl rfl) (w_if (t_cmp (OpR.or op_eq (op_eqD (hu_of4 hr))) os_eq2 (w_cg G__law_roll hr (by decide) Gu.no (takes_of rfl rfl rfl rfl) (a_cons (w_var 0) (a_cons w_int a_nil))) w_int (nomark _)) w_non (w_cg G__law_roll hr (by decide) Gu.no (takes_of rfl rfl rfl rfl) (a_cons (w_var 0) (a_cons w_int a_nil))))) (z_cons (s_asgG (w_tup (a_cons (w_makeK0 (ks := ["power"]) G_Disk___init__ hr (by decide) (takes_of rfl rfl rfl rfl) (k_cons (w_var 1) k_nil)) (a_cons (w_cg G__law_new hr (by decide) Gu.no (takes_of rfl rfl rfl rfl) (a_cons (w_var 1) a_nil)) a_nil))) (g_tup2 rfl nd__law_disks_right rfl (.inr rfl) rfl (.inl rfl))) (z_cons (s_asg nd__law_disks_right rfl (.inl rfl) (w_lst (a_cons w_str (a_cons w_str (a_cons w_str (a_cons w_str (a_cons w_str (a_cons w_str (a_cons w_str (a_cons w_str (a_cons w_str a_nil))))))))))) (z_cons (s_forI (passes_of rfl) rfl (i_rng1 rfl (fr "range" (.tail _ (.tail _ (.tail _ (.tail _ (.head _)))))) (w_add w_int (w_cg G__law_roll hr (by decide) Gu.no (takes_of rfl rfl rfl rfl) (a_cons (w_var 0) (a_cons w_int a_nil))))) (g_name nd__law_disks_right rfl (.inl rfl)) (z_cons (s_par rfl nd__law_disks_right rfl rfl (by decide) rfl rfl (w_cg G__law_one_of hr (by decide) Gu.no (takes_of rfl rfl rfl rfl) (a_cons (w_var 0) (a_cons (w_var 2) a_nil))) (w_add w_str (c_str (fr "str" (.tail _ (.tail _ (.tail _ (.tail _ (.tail _ (.head _))))))) (a_cons (w_cg G__law_roll hr (by decide) Gu.no (takes_of rfl rfl rfl rfl) (a_cons (w_var 0) (a_cons w_int a_nil))) a_nil)))) (z_cons (s_if (t_cmp (OpR.or op_eq (op_eqD (hu_of4 hr))) os_eq2 (w_var 7) w_str (nomark _)) (z_cons (s_asg nd__law_disks_right rfl (.inl rfl) (c_tuple (fr "tuple" (.tail _ (.tail _ (.tail _ (.tail _ (.tail _ (.tail _ (.tail _ (.tail _ (.tail _ (.tail _ (.head _)))))))))))) (a_cons (w_lcI (own := [("_law_at", 14)]) rfl nd__law_disks_right (i_rng1 rfl (fr "range" (.tail _ (.tail _ (.tail _ (.tail _ (.head _)))))) (w_cg G__law_roll hr (by decide) Gu.no (takes_of rfl rfl rfl rfl) (a_cons (w_var 0) (a_cons w_int a_nil)))) (blkOk_by (N := N__law_disks_right) (sc := (df 44).2.2) (by decide +kernel)) (fun s H C cl fp => gw_name (pg_name nd__law_disks_right rfl (.inl rfl))) blk_yes (fun s H C cl fp => (w_cg G__law_roll hr (by decide) Gu.no LamX.takes0 (a_cons (w_var 0) (a_cons w_int a_nil))))) a_nil))) (z_cons (s_asg nd__law_disks_right rfl (.inl rfl) (w_if (t_cmp (OpR.or op_eq (op_eqD (hu_of4 hr))) os_eq2 (w_cg G__law_roll hr (by decide) Gu.no (takes_of rfl rfl rfl rfl) (a_cons (w_var 0) (a_cons w_int a_nil))) w_int (nomark _)) w_non (w_cg G__law_roll hr (by decide) Gu.no (takes_of rfl rfl rfl rfl) (a_cons (w_var 0) (a_cons w_int a_nil))))) (z_one (s_asgG (w_tup (a_cons (w_methK (ks := ["power"]) c_Disk G1_Disk_lost hr (by decide) (takes_of rfl rfl rfl rfl) (w_var 5) (a_cons (w_var 9) a_nil) (k_cons (w_var 1) k_nil)) (a_cons (w_cg G__law_lost hr (by decide) Gu.no (takes_of rfl rfl rfl rfl) (a_cons (w_var 6) (a_cons (w_var 9) (a_cons (w_var 1) a_nil)))) a_nil))) (g_tup2 rfl nd__law_disks_right rfl (.inr rfl) rfl (.inl rfl)))))) (z_cons (s_asg nd__law_disks_right rfl (.inl rfl) (w_if (t_cmp (OpR.or op_eq (op_eqD (hu_of4 hr))) os_eq2 (w_cg G__law_roll hr (by decide) Gu.no (takes_of rfl rfl rfl rfl) (a_cons (w_var 0) (a_cons w_int a_nil))) w_int (nomark _)) (w_cg G__law_one_of hr (by decide) Gu.no (takes_of rfl rfl rfl rfl) (a_cons (w_var 0) (a_cons (w_lst (a_cons w_str (a_cons w_int (a_cons w_str (a_cons w_str a_nil))))) a_nil))) (w_var 8))) (z_cons (s_asg nd__law_disks_right rfl (.inl rfl) (w_if (t_cmp op_gt os_B0 (w_cg G__law_roll hr (by decide) Gu.no (takes_of rfl rfl rfl rfl) (a_cons (w_var 0) (a_cons w_int a_nil))) w_int (nomark _)) (w_cg G__law_one_of hr (by decide) Gu.no (takes_of rfl rfl rfl rfl) (a_cons (w_var 0) (a_cons (w_lst (a_cons w_str (a_cons w_str (a_cons w_str (a_cons w_str a_nil))))) a_nil))) w_int)) (z_cons (s_if (t_cmp (OpR.or op_eq (op_eqD (hu_of4 hr))) os_eq2 (w_var 7) w_str (nomark _)) (z_cons (s_asg nd__law_disks_right rfl (.inl rfl) (w_add w_str (c_str (fr "str" (.tail _ (.tail _ (.tail _ (.tail _ (.tail _ (.head _))))))) (a_cons (w_cg G__law_roll hr (by decide) Gu.no (takes_of rfl rfl rfl rfl) (a_cons (w_var 0) (a_cons w_int a_nil))) a_nil)))) (z_one (s_asg nd__law_disks_right rfl (.inl rfl) (w_if (t_cmp (OpR.or op_eq (op_eqD (hu_of4 hr))) os_eq2 (w_var 11) (w_var 8) (nomark _)) w_str (w_if (t_cmp (OpR.or op_ne (op_neD (hu_of4 hr))) os_ne2 (w_var 10) w_int (nomark _)) (w_var 11) w_str))))) z_nil) (z_cons (s_par rfl nd__law_disks_right rfl rfl (by decide) rfl rfl (w_cg G__law_done hr (by decide) Gu.no (takes_of rfl rfl rfl rfl) (a_cons (w_var 5) (a_cons (w_tup (a_cons (w_var 7) (a_cons (w_var 8) (a_cons (w_var 10) a_nil)))) a_nil))) (w_cg G__law_step hr (by decide) Gu.no (takes_of rfl rfl rfl rfl) (a_cons (w_var 6) (a_cons (w_tup (a_cons (w_var 7) (a_cons (w_var 8) (a_cons (w_var 10) a_nil)))) a_nil)))) (z_one (s_if (t_w (t_or (t_cmp (OpR.or op_ne (op_neD (hu_of4 hr))) os_ne2 (w_ix (w_var 12) w_int) (w_ix (w_var 13) w_int) (nomark _)) (t_or1 (t_w (t_and (t_cmp (OpR.or op_ne (op_neD (hu_of4 hr))) os_ne2 (w_ix (w_var 13) w_int) w_str (nomark _)) (t_and1 (t_cmp (OpR.or op_ne (op_neD (hu_of4 hr))) os_ne2 (w_var 12) (w_var 13) (nomark _)))))))) (z_one (s_ret w_bl)) z_nil))))))) (z_one (s_if (t_not (t_val (w_cg G__law_is_like hr (by decide) Gu.no (takes_of rfl rfl rfl rfl) (a_cons (w_var 5) (a_cons (w_var 6) a_nil))))) (z_one (s_ret w_bl)) z_nil))))) (z_cons (s_asg nd__law_disks_right rfl (.inr rfl) (w_cg G__law_one_of hr (by decide) Gu.no (takes_of rfl rfl rfl rfl) (a_cons (w_var 0) (a_cons (w_lst (a_cons (w_tup (a_cons (w_neg w_int) a_nil)) (a_cons w_int (a_cons (w_tup (a_cons w_str a_nil)) (a_cons (w_tup (a_cons w_bl a_nil)) (a_cons w_non a_nil)))))) a_nil)))) (z_cons (s_if (t_cmp (OpR.or op_ne (op_neD (hu_of4 hr))) os_ne2 (L_give (k := 6) M hcode TB hmT hu (by decide) hr (LamX.lamS_by (sc := (df 44).2.2) (by decide +kernel)) rfl (fun _ _ _ _ _ => rfl) (fun A outer s H E fl c' hr => (w_methK (ks := ["power"]) c_Disk G1_Disk_lost hr (by decide) (takes_of rfl rfl rfl rfl) (w_var 5) (a_cons (w_var 4) a_nil) (k_cons (w_neg w_int) k_nil)))) (w_tup (a_cons w_str a_nil)) (nomark _)) (z_one (s_ret w_bl)) z_nil) (z_cons (s_if (t_cmp (OpR.or op_ne (op_neD (hu_of4 hr))) os_ne2 (L_give (k := 6) M hcode TB hmT hu (by decide) hr (LamX.lamS_by (sc := (df 44).2.2) (by decide +kernel)) rfl (fun _ _ _ _ _ => rfl) (fun A outer s H E fl c' hr => (w_methK0 (ks := ["power"]) c_Disk G0_Disk_lost hr (by decide) (takes_of rfl rfl rfl rfl) (w_var 5) (k_cons w_int k_nil)))) (w_tup (a_cons w_str (a_cons w_int a_nil))) (nomark _)) (z_one (s_ret w_bl)) z_nil) (z_cons (s_if (t_cmp (OpR.or op_ne (op_neD (hu_of4 hr))) os_ne2 (L_give (k := 3) M hcode TB hmT hu (by decide) hr (LamX.lamS_by (sc := (df 44).2.2) (by decide +kernel)) rfl (fun _ _ _ _ _ => rfl) (fun A outer s H E fl c' hr => (w_makeK0 (ks := ["power"]) G_Disk___init__ hr (by decide) (takes_of rfl rfl rfl rfl) (k_cons (w_neg w_int) k_nil)))) (w_tup (a_cons w_str (a_cons (w_neg w_int) a_nil))) (nomark _)) (z_one (s_ret w_bl)) z_nil) (z_one (s_ret (w_eq2 (hu_of4 hr) (L_give (k := 3) M hcode TB hmT hu (by decide) hr (LamX.lamS_by (sc := (df 44).2.2) (by decide +kernel)) rfl (fun _ _ _ _ _ => rfl) (fun A outer s H E fl c' hr => (w_meth c_Disk G_Disk_read hr (by decide) (takes_of rfl rfl rfl rfl) (w_var 5) (a_cons w_str a_nil)))) (w_tup (a_cons w_str (a_cons w_str a_nil)))))))))))))), hp⟩
theorem g_law (fr : Fr mg frees) (F : Fc K mg "law" (df 45) []) (G__law_disks_right : Gd P w K T mg base false 10 "_law_disks_right" ["_law_dice_here"] [] (S__law_disks_right mg)) (G__law_dice : Gd P w K T mg base false 1 "_law_dice" ["_law_script", "_law_at"] [] (S__law_dice mg)) (hlen : ∀ pvs st Q PX, S_law mg pvs st Q PX → pvs.length = 1) (hp : ∀ pvs st Q PX, S_law mg pvs st Q PX → t_law K mg (endOf Q PX) (ini N_law pvs) st) :
    Gd P w K T mg base false 11 "law" ["_law_script"] [] (S_law mg) :=
  g_def (gd := false) (k := 10) (N := N_law) F ⟨rfl, rfl, rfl, nd_law, rfl, by decide +kernel, by decide +kernel⟩ (fun _ _ _ _ _ _ us hl => match us, hl with | [_], _ => rfl) hlen fun f cdv A outer sh H E hr hgd =>
    ⟨t_law K mg, by unfold t_law; exact (z_cons (s_forI (passes_of rfl) rfl (i_rng1 rfl (fr "range" (.tail _ (.tail _ (.tail _ (.tail _ (.head _)))))) (c_min rfl (fr "min" (.tail _ (.tail _ (.tail _ (.tail _ (.tail _ (.tail _ (.tail _ (.head _))))))))) (a_cons w_int (a_cons (c_max rfl (fr "max" (.tail _ (.tail _ (.tail _ (.tail _ (.tail _ (.tail _ (.head _)))))))) (a_cons w_int (a_cons (c_len (fr "len" (.tail _ (.tail _ (.head _)))) (a_cons (w_var 0) a_nil)) a_nil))) a_nil)))) (g_name nd_law rfl (.inl rfl)) (z_one (s_if (t_not (t_val (w_cg G__law_disks_right hr (by decide) Gu.no (takes_of rfl rfl rfl rfl) (a_cons (w_cg G__law_dice hr (by decide) Gu.no (takes_of rfl rfl rfl rfl) (a_cons (w_var 0) (a_cons (w_var 1) a_nil))) a_nil)))) (z_one (s_ret w_bl)) z_nil))) (z_one (s_ret w_bl))), hp⟩
end
end K5
set_option Elab.async false
set_option linter.all false
set_option maxRecDepth 100000
set_option maxHeartbeats 1000000
namespace K5
open PySem PySem.Spec PyProof.Rows L2 Sm Wm Cm Kt Tm
structure Facts (K : PySem.W.Frag) (mg : Str → Option Value) (base : Heap) (T : List (Addr × Str)) : Prop where
  fr : Fr mg frees
  F_ten_to : Fc K mg "ten_to" (df 3) []
  F_has_more_digits : Fc K mg "has_more_digits" (df 4) []
  F_is_integer_of : Fc K mg "is_integer_of" (df 5) []
  F_is_passed_integer : Fc K mg "is_passed_integer" (df 6) []
  F_is_between : Fc K mg "is_between" (df 7) []
  F_is_printable : Fc K mg "is_printable" (df 9) []
  F_is_name : Fc K mg "is_name" (df 22) []
  D_DiskFile___init__ : ∃ f fd, (mg "DiskFile" = some (.ref (ad mg "DiskFile"))) ∧ (Mk K (ad mg "DiskFile") f) ∧ (FunD K "__init__" "DiskFile.__init__" (dm 27 0).2.1 (dm 27 0).1 (dm 27 0).2.2 [] [] f fd)
  F__is_text : Fc K mg "_is_text" (df 28) []
  F__are_choices : Fc K mg "_are_choices" (df 29) []
  F__choice_at : Fc K mg "_choice_at" (df 30) []
  D_Disk___init__ : ∃ f fd, (mg "Disk" = some (.ref (ad mg "Disk"))) ∧ (Mk K (ad mg "Disk") f) ∧ (FunD K "__init__" "Disk.__init__" (dm 31 0).2.1 (dm 31 0).1 (dm 31 0).2.2 [] [("power", V.non)] f fd)
  D_Disk_names : ∃ p f fd, (PropOf K (ad mg "Disk") "names" p f) ∧ (FunD K "names" "Disk.names" (dm 31 1).2.1 (dm 31 1).1 (dm 31 1).2.2 [] [] f fd)
  D_Disk_steps : ∃ p f fd, (PropOf K (ad mg "Disk") "steps" p f) ∧ (FunD K "steps" "Disk.steps" (dm 31 2).2.1 (dm 31 2).1 (dm 31 2).2.2 [] [] f fd)
  D_Disk__check_file : ∃ f fd, (Meth K (ad mg "Disk") "_check_file" f) ∧ (FunD K "_check_file" "Disk._check_file" (dm 31 3).2.1 (dm 31 3).1 (dm 31 3).2.2 [] [] f fd)
  D_Disk__step : ∃ f fd, (Meth K (ad mg "Disk") "_step" f) ∧ (FunD K "_step" "Disk._step" (dm 31 4).2.1 (dm 31 4).1 (dm 31 4).2.2 [] [] f fd)
  D_Disk__with_names : ∃ f fd, (Meth K (ad mg "Disk") "_with_names" f) ∧ (FunD K "_with_names" "Disk._with_names" (dm 31 5).2.1 (dm 31 5).1 (dm 31 5).2.2 [] [] f fd)
  D_Disk__other_names : ∃ f fd, (Meth K (ad mg "Disk") "_other_names" f) ∧ (FunD K "_other_names" "Disk._other_names" (dm 31 6).2.1 (dm 31 6).1 (dm 31 6).2.2 [] [] f fd)
  D_Disk_append : ∃ f fd, (Meth K (ad mg "Disk") "append" f) ∧ (FunD K "append" "Disk.append" (dm 31 7).2.1 (dm 31 7).1 (dm 31 7).2.2 [] [] f fd)
  D_Disk_sync : ∃ f fd, (Meth K (ad mg "Disk") "sync" f) ∧ (FunD K "sync" "Disk.sync" (dm 31 8).2.1 (dm 31 8).1 (dm 31 8).2.2 [] [] f fd)
  D_Disk_remove : ∃ f fd, (Meth K (ad mg "Disk") "remove" f) ∧ (FunD K "remove" "Disk.remove" (dm 31 9).2.1 (dm 31 9).1 (dm 31 9).2.2 [] [] f fd)
  D_Disk_rename : ∃ f fd, (Meth K (ad mg "Disk") "rename" f) ∧ (FunD K "rename" "Disk.rename" (dm 31 10).2.1 (dm 31 10).1 (dm 31 10).2.2 [] [] f fd)
  D_Disk_sync_names : ∃ f fd, (Meth K (ad mg "Disk") "sync_names" f) ∧ (FunD K "sync_names" "Disk.sync_names" (dm 31 11).2.1 (dm 31 11).1 (dm 31 11).2.2 [] [] f fd)
  D_Disk_read : ∃ f fd, (Meth K (ad mg "Disk") "read" f) ∧ (FunD K "read" "Disk.read" (dm 31 12).2.1 (dm 31 12).1 (dm 31 12).2.2 [] [] f fd)
  D_Disk_lost : ∃ f fd a0, (Meth K (ad mg "Disk") "lost" f) ∧ (FunD K "lost" "Disk.lost" (dm 31 15).2.1 (dm 31 15).1 (dm 31 15).2.2 [V.ref a0] [("power", V.non)] f fd) ∧ (∀ m H, RV K m H (.ref a0) (.tup []))
  D_Disk_put_firm : ∃ f fd, (Meth K (ad mg "Disk") "put_firm" f) ∧ (FunD K "put_firm" "Disk.put_firm" (dm 31 16).2.1 (dm 31 16).1 (dm 31 16).2.2 [] [] f fd)
  D_Disk___contains__ : ∃ f fd, (PySem.W.findIn K (.ref (ad mg "Disk")) "__contains__" = some (some (.ref f))) ∧ (PySem.W.isFn K (.ref f) = true) ∧ (FunD K "__contains__" "Disk.__contains__" (dm 31 17).2.1 (dm 31 17).1 (dm 31 17).2.2 [] [] f fd)
  D_Disk___len__ : ∃ f fd, (PySem.W.findIn K (.ref (ad mg "Disk")) "__len__" = some (some (.ref f))) ∧ (PySem.W.isFn K (.ref f) = true) ∧ (FunD K "__len__" "Disk.__len__" (dm 31 18).2.1 (dm 31 18).1 (dm 31 18).2.2 [] [] f fd)
  D_Disk___str__ : ∃ f fd, (PySem.W.findIn K (.ref (ad mg "Disk")) "__str__" = some (some (.ref f))) ∧ (PySem.W.isFn K (.ref f) = true) ∧ (FunD K "__str__" "Disk.__str__" (dm 31 19).2.1 (dm 31 19).1 (dm 31 19).2.2 [] [] f fd)
  F__law_dice : Fc K mg "_law_dice" (df 33) []
  F__law_roll : Fc K mg "_law_roll" (df 34) []
  F__law_one_of : Fc K mg "_law_one_of" (df 35) []
  F__law_new : Fc K mg "_law_new" (df 37) []
  F__law_names : Fc K mg "_law_names" (df 38) []
  F__law_step : Fc K mg "_law_step" (df 39) []
  F__law_is_name : Fc K mg "_law_is_name" (df 40) []
  F__law_lost : Fc K mg "_law_lost" (df 41) []
  F__law_done : FcL K mg base T "_law_done" (df 42)
  F__law_is_like : Fc K mg "_law_is_like" (df 43) []
  F__law_disks_right : FcL K mg base T "_law_disks_right" (df 44)
  F_law : Fc K mg "law" (df 45) []
  M : MetF K mg
  E : ExmM K mg
  k_MOST_PASSED : ∃ t, mg "MOST_PASSED" = some (.int 60 t)
  k__LETTERS : ∃ t, mg "_LETTERS" = some (.str "abcdefghijklmnopqrstuvwxyz" t)
  k__LONGEST_NAME : ∃ t, mg "_LONGEST_NAME" = some (.int 8 t)
  k__DIGITS : ∃ t, mg "_DIGITS" = some (.str "0123456789" t)
  c_DiskFile : Cls K (ad mg "DiskFile")
  n_DiskFile_text : NoAttr K (ad mg "DiskFile") "text"
  n_DiskFile_firm_count : NoAttr K (ad mg "DiskFile") "firm_count"
  c_Disk : Cls K (ad mg "Disk")
  x_InvalidNumber : ExI K mg "InvalidNumber" "given"
  k__MOST_POWER : ∃ t, mg "_MOST_POWER" = some (.int 1000000 t)
  n_Disk__power : NoAttr K (ad mg "Disk") "_power"
  n_Disk__steps : NoAttr K (ad mg "Disk") "_steps"
  n_Disk__tables : NoAttr K (ad mg "Disk") "_tables"
  x_UnknownName : ExI K mg "UnknownName" "asked"
  x_PowerLost : ExI K mg "PowerLost" "taken"
  x_InvalidName : ExI K mg "InvalidName" "message"
  x_InvalidOperation : ExI K mg "InvalidOperation" "message"
  x_TooMany : ExI K mg "TooMany" "limit"
  k_MAX_TEXT : ∃ t, mg "MAX_TEXT" = some (.int 200000 t)
  k_MAX_FILES : ∃ t, mg "MAX_FILES" = some (.int 8 t)
section
variable {P : Program} {w : World} {K : PySem.W.Frag} {T : List (Addr × Str)} {mg : Str → Option Value} {base : Heap}
theorem law_ok (A : Facts K mg base T) : Gd P w K T mg base false 11 "law" ["_law_script"] [] (S_law mg) := by
  have G_ten_to := g_ten_to (P := P) (w := w) (K := K) (T := T) (mg := mg) (base := base) A.fr A.F_ten_to (by intro pvs st Q PX h; first | (obtain ⟨_, rfl, _⟩ := h; rfl) | (obtain ⟨rfl, _⟩ := h; rfl) | (obtain ⟨_, _, rfl, _⟩ := h; rfl) | (obtain ⟨_, _, _, rfl, _⟩ := h; rfl) | (obtain ⟨_, _, _, _, rfl, _⟩ := h; rfl) | (obtain ⟨_, _, _, _, _, rfl, _⟩ := h; rfl) | (obtain ⟨_, _, _, _, _, _, rfl, _⟩ := h; rfl) | (obtain ⟨_, _, _, _, _, _, _, rfl, _⟩ := h; rfl) | (obtain ⟨_, _, _, _, _, _, _, _, rfl, _⟩ := h; rfl)) (p_ten_to)
  have G_has_more_digits := g_has_more_digits (P := P) (w := w) (K := K) (T := T) (mg := mg) (base := base) A.fr A.F_has_more_digits G_ten_to (by intro pvs st Q PX h; first | (obtain ⟨_, _, rfl, _⟩ := h; rfl) | (obtain ⟨rfl, _⟩ := h; rfl) | (obtain ⟨_, rfl, _⟩ := h; rfl) | (obtain ⟨_, _, _, rfl, _⟩ := h; rfl) | (obtain ⟨_, _, _, _, rfl, _⟩ := h; rfl) | (obtain ⟨_, _, _, _, _, rfl, _⟩ := h; rfl) | (obtain ⟨_, _, _, _, _, _, rfl, _⟩ := h; rfl) | (obtain ⟨_, _, _, _, _, _, _, rfl, _⟩ := h; rfl) | (obtain ⟨_, _, _, _, _, _, _, _, rfl, _⟩ := h; rfl)) (p_has_more_digits)
  have G_is_integer_of := g_is_integer_of (P := P) (w := w) (K := K) (T := T) (mg := mg) (base := base) A.fr A.F_is_integer_of G_has_more_digits (by intro pvs st Q PX h; first | (obtain ⟨_, _, rfl, _⟩ := h; rfl) | (obtain ⟨rfl, _⟩ := h; rfl) | (obtain ⟨_, rfl, _⟩ := h; rfl) | (obtain ⟨_, _, _, rfl, _⟩ := h; rfl) | (obtain ⟨_, _, _, _, rfl, _⟩ := h; rfl) | (obtain ⟨_, _, _, _, _, rfl, _⟩ := h; rfl) | (obtain ⟨_, _, _, _, _, _, rfl, _⟩ := h; rfl) | (obtain ⟨_, _, _, _, _, _, _, rfl, _⟩ := h; rfl) | (obtain ⟨_, _, _, _, _, _, _, _, rfl, _⟩ := h; rfl)) (p_is_integer_of)
  have G_is_passed_integer := g_is_passed_integer (P := P) (w := w) (K := K) (T := T) (mg := mg) (base := base) A.fr A.F_is_passed_integer G_is_integer_of A.k_MOST_PASSED (by intro pvs st Q PX h; first | (obtain ⟨_, rfl, _⟩ := h; rfl) | (obtain ⟨rfl, _⟩ := h; rfl) | (obtain ⟨_, _, rfl, _⟩ := h; rfl) | (obtain ⟨_, _, _, rfl, _⟩ := h; rfl) | (obtain ⟨_, _, _, _, rfl, _⟩ := h; rfl) | (obtain ⟨_, _, _, _, _, rfl, _⟩ := h; rfl) | (obtain ⟨_, _, _, _, _, _, rfl, _⟩ := h; rfl) | (obtain ⟨_, _, _, _, _, _, _, rfl, _⟩ := h; rfl) | (obtain ⟨_, _, _, _, _, _, _, _, rfl, _⟩ := h; rfl)) (p_is_passed_integer)
  have G_is_between := g_is_between (P := P) (w := w) (K := K) (T := T) (mg := mg) (base := base) A.fr A.F_is_between (by intro pvs st Q PX h; first | (obtain ⟨_, _, _, rfl, _⟩ := h; rfl) | (obtain ⟨rfl, _⟩ := h; rfl) | (obtain ⟨_, rfl, _⟩ := h; rfl) | (obtain ⟨_, _, rfl, _⟩ := h; rfl) | (obtain ⟨_, _, _, _, rfl, _⟩ := h; rfl) | (obtain ⟨_, _, _, _, _, rfl, _⟩ := h; rfl) | (obtain ⟨_, _, _, _, _, _, rfl, _⟩ := h; rfl) | (obtain ⟨_, _, _, _, _, _, _, rfl, _⟩ := h; rfl) | (obtain ⟨_, _, _, _, _, _, _, _, rfl, _⟩ := h; rfl)) (p_is_between)
  have G_is_printable := g_is_printable (P := P) (w := w) (K := K) (T := T) (mg := mg) (base := base) A.fr A.F_is_printable (by intro pvs st Q PX h; first | (obtain ⟨_, rfl, _⟩ := h; rfl) | (obtain ⟨rfl, _⟩ := h; rfl) | (obtain ⟨_, _, rfl, _⟩ := h; rfl) | (obtain ⟨_, _, _, rfl, _⟩ := h; rfl) | (obtain ⟨_, _, _, _, rfl, _⟩ := h; rfl) | (obtain ⟨_, _, _, _, _, rfl, _⟩ := h; rfl) | (obtain ⟨_, _, _, _, _, _, rfl, _⟩ := h; rfl) | (obtain ⟨_, _, _, _, _, _, _, rfl, _⟩ := h; rfl) | (obtain ⟨_, _, _, _, _, _, _, _, rfl, _⟩ := h; rfl)) (p_is_printable)
  have G_is_name := g_is_name (P := P) (w := w) (K := K) (T := T) (mg := mg) (base := base) A.fr A.F_is_name A.k__LETTERS A.k__LONGEST_NAME A.k__DIGITS (by intro pvs st Q PX h; first | (obtain ⟨_, rfl, _⟩ := h; rfl) | (obtain ⟨rfl, _⟩ := h; rfl) | (obtain ⟨_, _, rfl, _⟩ := h; rfl) | (obtain ⟨_, _, _, rfl, _⟩ := h; rfl) | (obtain ⟨_, _, _, _, rfl, _⟩ := h; rfl) | (obtain ⟨_, _, _, _, _, rfl, _⟩ := h; rfl) | (obtain ⟨_, _, _, _, _, _, rfl, _⟩ := h; rfl) | (obtain ⟨_, _, _, _, _, _, _, rfl, _⟩ := h; rfl) | (obtain ⟨_, _, _, _, _, _, _, _, rfl, _⟩ := h; rfl)) (p_is_name)
  obtain ⟨_, _, hm_DiskFile___init__, Mm_DiskFile___init__, FD_DiskFile___init__⟩ := A.D_DiskFile___init__
  have G_DiskFile___init__ := g_DiskFile___init__ (P := P) (w := w) (K := K) (T := T) (mg := mg) (base := base) A.fr hm_DiskFile___init__ Mm_DiskFile___init__ FD_DiskFile___init__ A.c_DiskFile A.n_DiskFile_text A.n_DiskFile_firm_count (by intro pvs st Q PX h; first | (obtain ⟨_, _, _, rfl, _⟩ := h; rfl) | (obtain ⟨rfl, _⟩ := h; rfl) | (obtain ⟨_, rfl, _⟩ := h; rfl) | (obtain ⟨_, _, rfl, _⟩ := h; rfl) | (obtain ⟨_, _, _, _, rfl, _⟩ := h; rfl) | (obtain ⟨_, _, _, _, _, rfl, _⟩ := h; rfl) | (obtain ⟨_, _, _, _, _, _, rfl, _⟩ := h; rfl) | (obtain ⟨_, _, _, _, _, _, _, rfl, _⟩ := h; rfl) | (obtain ⟨_, _, _, _, _, _, _, _, rfl, _⟩ := h; rfl)) (p_DiskFile___init__)
  have G__is_text := g__is_text (P := P) (w := w) (K := K) (T := T) (mg := mg) (base := base) A.fr A.F__is_text G_is_printable (by intro pvs st Q PX h; first | (obtain ⟨_, rfl, _⟩ := h; rfl) | (obtain ⟨rfl, _⟩ := h; rfl) | (obtain ⟨_, _, rfl, _⟩ := h; rfl) | (obtain ⟨_, _, _, rfl, _⟩ := h; rfl) | (obtain ⟨_, _, _, _, rfl, _⟩ := h; rfl) | (obtain ⟨_, _, _, _, _, rfl, _⟩ := h; rfl) | (obtain ⟨_, _, _, _, _, _, rfl, _⟩ := h; rfl) | (obtain ⟨_, _, _, _, _, _, _, rfl, _⟩ := h; rfl) | (obtain ⟨_, _, _, _, _, _, _, _, rfl, _⟩ := h; rfl)) (p__is_text)
  have G__are_choices := g__are_choices (P := P) (w := w) (K := K) (T := T) (mg := mg) (base := base) A.fr A.F__are_choices G_is_passed_integer (by intro pvs st Q PX h; first | (obtain ⟨_, rfl, _⟩ := h; rfl) | (obtain ⟨rfl, _⟩ := h; rfl) | (obtain ⟨_, _, rfl, _⟩ := h; rfl) | (obtain ⟨_, _, _, rfl, _⟩ := h; rfl) | (obtain ⟨_, _, _, _, rfl, _⟩ := h; rfl) | (obtain ⟨_, _, _, _, _, rfl, _⟩ := h; rfl) | (obtain ⟨_, _, _, _, _, _, rfl, _⟩ := h; rfl) | (obtain ⟨_, _, _, _, _, _, _, rfl, _⟩ := h; rfl) | (obtain ⟨_, _, _, _, _, _, _, _, rfl, _⟩ := h; rfl)) (p__are_choices)
  have G__choice_at := g__choice_at (P := P) (w := w) (K := K) (T := T) (mg := mg) (base := base) A.fr A.F__choice_at (by intro pvs st Q PX h; first | (obtain ⟨_, _, _, rfl, _⟩ := h; rfl) | (obtain ⟨rfl, _⟩ := h; rfl) | (obtain ⟨_, rfl, _⟩ := h; rfl) | (obtain ⟨_, _, rfl, _⟩ := h; rfl) | (obtain ⟨_, _, _, _, rfl, _⟩ := h; rfl) | (obtain ⟨_, _, _, _, _, rfl, _⟩ := h; rfl) | (obtain ⟨_, _, _, _, _, _, rfl, _⟩ := h; rfl) | (obtain ⟨_, _, _, _, _, _, _, rfl, _⟩ := h; rfl) | (obtain ⟨_, _, _, _, _, _, _, _, rfl, _⟩ := h; rfl)) (p__choice_at)
  obtain ⟨_, _, hm_Disk___init__, Mm_Disk___init__, FD_Disk___init__⟩ := A.D_Disk___init__
  have G_Disk___init__ := g_Disk___init__ (P := P) (w := w) (K := K) (T := T) (mg := mg) (base := base) A.fr hm_Disk___init__ Mm_Disk___init__ (List.cons_ne_nil _ _) FD_Disk___init__ A.c_Disk A.x_InvalidNumber G_is_between A.k__MOST_POWER A.n_Disk__power A.n_Disk__steps A.n_Disk__tables (by intro pvs st Q PX h; first | (obtain ⟨_, _, rfl, _⟩ := h; rfl) | (obtain ⟨rfl, _⟩ := h; rfl) | (obtain ⟨_, rfl, _⟩ := h; rfl) | (obtain ⟨_, _, _, rfl, _⟩ := h; rfl) | (obtain ⟨_, _, _, _, rfl, _⟩ := h; rfl) | (obtain ⟨_, _, _, _, _, rfl, _⟩ := h; rfl) | (obtain ⟨_, _, _, _, _, _, rfl, _⟩ := h; rfl) | (obtain ⟨_, _, _, _, _, _, _, rfl, _⟩ := h; rfl) | (obtain ⟨_, _, _, _, _, _, _, _, rfl, _⟩ := h; rfl)) (p_Disk___init__)
  obtain ⟨_, _, _, Mm_Disk_names, FD_Disk_names⟩ := A.D_Disk_names
  have G_Disk_names := g_Disk_names (P := P) (w := w) (K := K) (T := T) (mg := mg) (base := base) A.fr Mm_Disk_names FD_Disk_names A.c_Disk A.n_Disk__tables (by intro pvs st Q PX h; first | (obtain ⟨_, _, _, rfl, _⟩ := h; rfl) | (obtain ⟨rfl, _⟩ := h; rfl) | (obtain ⟨_, rfl, _⟩ := h; rfl) | (obtain ⟨_, _, rfl, _⟩ := h; rfl) | (obtain ⟨_, _, _, _, rfl, _⟩ := h; rfl) | (obtain ⟨_, _, _, _, _, rfl, _⟩ := h; rfl) | (obtain ⟨_, _, _, _, _, _, rfl, _⟩ := h; rfl) | (obtain ⟨_, _, _, _, _, _, _, rfl, _⟩ := h; rfl) | (obtain ⟨_, _, _, _, _, _, _, _, rfl, _⟩ := h; rfl)) (p_Disk_names)
  obtain ⟨_, _, _, Mm_Disk_steps, FD_Disk_steps⟩ := A.D_Disk_steps
  have G_Disk_steps := g_Disk_steps (P := P) (w := w) (K := K) (T := T) (mg := mg) (base := base) A.fr Mm_Disk_steps FD_Disk_steps A.c_Disk A.n_Disk__steps (by intro pvs st Q PX h; first | (obtain ⟨_, _, _, _, rfl, _⟩ := h; rfl) | (obtain ⟨rfl, _⟩ := h; rfl) | (obtain ⟨_, rfl, _⟩ := h; rfl) | (obtain ⟨_, _, rfl, _⟩ := h; rfl) | (obtain ⟨_, _, _, rfl, _⟩ := h; rfl) | (obtain ⟨_, _, _, _, _, rfl, _⟩ := h; rfl) | (obtain ⟨_, _, _, _, _, _, rfl, _⟩ := h; rfl) | (obtain ⟨_, _, _, _, _, _, _, rfl, _⟩ := h; rfl) | (obtain ⟨_, _, _, _, _, _, _, _, rfl, _⟩ := h; rfl)) (p_Disk_steps)
  obtain ⟨_, _, hs_Disk___contains__, hf_Disk___contains__, FD_Disk___contains__⟩ := A.D_Disk___contains__
  have G_Disk___contains__ := g_Disk___contains__ (P := P) (w := w) (K := K) (T := T) (mg := mg) (base := base) A.fr hs_Disk___contains__ hf_Disk___contains__ FD_Disk___contains__ A.c_Disk A.n_Disk__tables (by intro pvs st Q PX h; first | (obtain ⟨_, _, _, rfl, _⟩ := h; rfl) | (obtain ⟨rfl, _⟩ := h; rfl) | (obtain ⟨_, rfl, _⟩ := h; rfl) | (obtain ⟨_, _, rfl, _⟩ := h; rfl) | (obtain ⟨_, _, _, _, rfl, _⟩ := h; rfl) | (obtain ⟨_, _, _, _, _, rfl, _⟩ := h; rfl) | (obtain ⟨_, _, _, _, _, _, rfl, _⟩ := h; rfl) | (obtain ⟨_, _, _, _, _, _, _, rfl, _⟩ := h; rfl) | (obtain ⟨_, _, _, _, _, _, _, _, rfl, _⟩ := h; rfl)) (p_Disk___contains__)
  obtain ⟨_, _, Mm_Disk__check_file, FD_Disk__check_file⟩ := A.D_Disk__check_file
  have G_Disk__check_file := g_Disk__check_file (P := P) (w := w) (K := K) (T := T) (mg := mg) (base := base) A.fr Mm_Disk__check_file FD_Disk__check_file A.c_Disk G_Disk___contains__ A.x_UnknownName (by intro pvs st Q PX h; first | (obtain ⟨_, _, _, rfl, _⟩ := h; rfl) | (obtain ⟨rfl, _⟩ := h; rfl) | (obtain ⟨_, rfl, _⟩ := h; rfl) | (obtain ⟨_, _, rfl, _⟩ := h; rfl) | (obtain ⟨_, _, _, _, rfl, _⟩ := h; rfl) | (obtain ⟨_, _, _, _, _, rfl, _⟩ := h; rfl) | (obtain ⟨_, _, _, _, _, _, rfl, _⟩ := h; rfl) | (obtain ⟨_, _, _, _, _, _, _, rfl, _⟩ := h; rfl) | (obtain ⟨_, _, _, _, _, _, _, _, rfl, _⟩ := h; rfl)) (p_Disk__check_file)
  obtain ⟨_, _, Mm_Disk__step, FD_Disk__step⟩ := A.D_Disk__step
  have G_Disk__step := g_Disk__step (P := P) (w := w) (K := K) (T := T) (mg := mg) (base := base) A.fr Mm_Disk__step FD_Disk__step A.c_Disk A.x_PowerLost A.n_Disk__steps A.n_Disk__power (by intro pvs st Q PX h; first | (obtain ⟨_, _, _, _, rfl, _⟩ := h; rfl) | (obtain ⟨rfl, _⟩ := h; rfl) | (obtain ⟨_, rfl, _⟩ := h; rfl) | (obtain ⟨_, _, rfl, _⟩ := h; rfl) | (obtain ⟨_, _, _, rfl, _⟩ := h; rfl) | (obtain ⟨_, _, _, _, _, rfl, _⟩ := h; rfl) | (obtain ⟨_, _, _, _, _, _, rfl, _⟩ := h; rfl) | (obtain ⟨_, _, _, _, _, _, _, rfl, _⟩ := h; rfl) | (obtain ⟨_, _, _, _, _, _, _, _, rfl, _⟩ := h; rfl)) (p_Disk__step)
  obtain ⟨_, _, Mm_Disk__with_names, FD_Disk__with_names⟩ := A.D_Disk__with_names
  have G_Disk__with_names := g_Disk__with_names (P := P) (w := w) (K := K) (T := T) (mg := mg) (base := base) A.fr Mm_Disk__with_names FD_Disk__with_names A.c_Disk A.n_Disk__tables (by intro pvs st Q PX h; first | (obtain ⟨_, _, _, _, _, _, rfl, _⟩ := h; rfl) | (obtain ⟨rfl, _⟩ := h; rfl) | (obtain ⟨_, rfl, _⟩ := h; rfl) | (obtain ⟨_, _, rfl, _⟩ := h; rfl) | (obtain ⟨_, _, _, rfl, _⟩ := h; rfl) | (obtain ⟨_, _, _, _, rfl, _⟩ := h; rfl) | (obtain ⟨_, _, _, _, _, rfl, _⟩ := h; rfl) | (obtain ⟨_, _, _, _, _, _, _, rfl, _⟩ := h; rfl) | (obtain ⟨_, _, _, _, _, _, _, _, rfl, _⟩ := h; rfl)) (p_Disk__with_names)
  obtain ⟨_, _, Mm_Disk__other_names, FD_Disk__other_names⟩ := A.D_Disk__other_names
  have G_Disk__other_names := g_Disk__other_names (P := P) (w := w) (K := K) (T := T) (mg := mg) (base := base) A.fr Mm_Disk__other_names FD_Disk__other_names A.c_Disk A.n_Disk__tables (by intro pvs st Q PX h; first | (obtain ⟨_, _, _, _, rfl, _⟩ := h; rfl) | (obtain ⟨rfl, _⟩ := h; rfl) | (obtain ⟨_, rfl, _⟩ := h; rfl) | (obtain ⟨_, _, rfl, _⟩ := h; rfl) | (obtain ⟨_, _, _, rfl, _⟩ := h; rfl) | (obtain ⟨_, _, _, _, _, rfl, _⟩ := h; rfl) | (obtain ⟨_, _, _, _, _, _, rfl, _⟩ := h; rfl) | (obtain ⟨_, _, _, _, _, _, _, rfl, _⟩ := h; rfl) | (obtain ⟨_, _, _, _, _, _, _, _, rfl, _⟩ := h; rfl)) (p_Disk__other_names)
  obtain ⟨_, _, Mm_Disk_read, FD_Disk_read⟩ := A.D_Disk_read
  have G_Disk_read := g_Disk_read (P := P) (w := w) (K := K) (T := T) (mg := mg) (base := base) A.fr Mm_Disk_read FD_Disk_read A.c_Disk A.c_DiskFile G_Disk__check_file A.n_Disk__tables A.n_DiskFile_text (by intro pvs st Q PX h; first | (obtain ⟨_, _, _, _, rfl, _⟩ := h; rfl) | (obtain ⟨rfl, _⟩ := h; rfl) | (obtain ⟨_, rfl, _⟩ := h; rfl) | (obtain ⟨_, _, rfl, _⟩ := h; rfl) | (obtain ⟨_, _, _, rfl, _⟩ := h; rfl) | (obtain ⟨_, _, _, _, _, rfl, _⟩ := h; rfl) | (obtain ⟨_, _, _, _, _, _, rfl, _⟩ := h; rfl) | (obtain ⟨_, _, _, _, _, _, _, rfl, _⟩ := h; rfl) | (obtain ⟨_, _, _, _, _, _, _, _, rfl, _⟩ := h; rfl)) (p_Disk_read)
  obtain ⟨_, _, hs_Disk___len__, hf_Disk___len__, FD_Disk___len__⟩ := A.D_Disk___len__
  have G_Disk___len__ := g_Disk___len__ (P := P) (w := w) (K := K) (T := T) (mg := mg) (base := base) A.fr hs_Disk___len__ hf_Disk___len__ FD_Disk___len__ A.c_Disk A.n_Disk__tables (by intro pvs st Q PX h; first | (obtain ⟨_, _, rfl, _⟩ := h; rfl) | (obtain ⟨rfl, _⟩ := h; rfl) | (obtain ⟨_, rfl, _⟩ := h; rfl) | (obtain ⟨_, _, _, rfl, _⟩ := h; rfl) | (obtain ⟨_, _, _, _, rfl, _⟩ := h; rfl) | (obtain ⟨_, _, _, _, _, rfl, _⟩ := h; rfl) | (obtain ⟨_, _, _, _, _, _, rfl, _⟩ := h; rfl) | (obtain ⟨_, _, _, _, _, _, _, rfl, _⟩ := h; rfl) | (obtain ⟨_, _, _, _, _, _, _, _, rfl, _⟩ := h; rfl)) (p_Disk___len__)
  obtain ⟨_, _, Mm_Disk_append, FD_Disk_append⟩ := A.D_Disk_append
  have G_Disk_append := g_Disk_append (P := P) (w := w) (K := K) (T := T) (mg := mg) (base := base) A.fr Mm_Disk_append FD_Disk_append A.c_Disk A.c_DiskFile A.x_InvalidName A.x_InvalidOperation A.x_TooMany G_Disk__step G_Disk___contains__ G_Disk_read A.k_MAX_TEXT G_Disk__other_names G_DiskFile___init__ G_Disk__with_names G_is_name G__is_text G_Disk___len__ A.k_MAX_FILES A.n_Disk__tables A.n_DiskFile_text (by intro pvs st Q PX h; first | (obtain ⟨_, _, _, _, _, rfl, _⟩ := h; rfl) | (obtain ⟨rfl, _⟩ := h; rfl) | (obtain ⟨_, rfl, _⟩ := h; rfl) | (obtain ⟨_, _, rfl, _⟩ := h; rfl) | (obtain ⟨_, _, _, rfl, _⟩ := h; rfl) | (obtain ⟨_, _, _, _, rfl, _⟩ := h; rfl) | (obtain ⟨_, _, _, _, _, _, rfl, _⟩ := h; rfl) | (obtain ⟨_, _, _, _, _, _, _, rfl, _⟩ := h; rfl) | (obtain ⟨_, _, _, _, _, _, _, _, rfl, _⟩ := h; rfl)) (p_Disk_append)
  obtain ⟨_, _, Mm_Disk_sync, FD_Disk_sync⟩ := A.D_Disk_sync
  have G_Disk_sync := g_Disk_sync (P := P) (w := w) (K := K) (T := T) (mg := mg) (base := base) A.fr Mm_Disk_sync FD_Disk_sync A.c_Disk A.c_DiskFile G_Disk__check_file G_Disk__step A.n_Disk__tables A.n_DiskFile_firm_count A.n_DiskFile_text (by intro pvs st Q PX h; first | (obtain ⟨_, _, _, _, rfl, _⟩ := h; rfl) | (obtain ⟨rfl, _⟩ := h; rfl) | (obtain ⟨_, rfl, _⟩ := h; rfl) | (obtain ⟨_, _, rfl, _⟩ := h; rfl) | (obtain ⟨_, _, _, rfl, _⟩ := h; rfl) | (obtain ⟨_, _, _, _, _, rfl, _⟩ := h; rfl) | (obtain ⟨_, _, _, _, _, _, rfl, _⟩ := h; rfl) | (obtain ⟨_, _, _, _, _, _, _, rfl, _⟩ := h; rfl) | (obtain ⟨_, _, _, _, _, _, _, _, rfl, _⟩ := h; rfl)) (p_Disk_sync)
  obtain ⟨_, _, Mm_Disk_remove, FD_Disk_remove⟩ := A.D_Disk_remove
  have G_Disk_remove := g_Disk_remove (P := P) (w := w) (K := K) (T := T) (mg := mg) (base := base) A.fr Mm_Disk_remove FD_Disk_remove A.c_Disk G_Disk__check_file G_Disk__step G_Disk__with_names G_Disk__other_names (by intro pvs st Q PX h; first | (obtain ⟨_, _, _, _, _, rfl, _⟩ := h; rfl) | (obtain ⟨rfl, _⟩ := h; rfl) | (obtain ⟨_, rfl, _⟩ := h; rfl) | (obtain ⟨_, _, rfl, _⟩ := h; rfl) | (obtain ⟨_, _, _, rfl, _⟩ := h; rfl) | (obtain ⟨_, _, _, _, rfl, _⟩ := h; rfl) | (obtain ⟨_, _, _, _, _, _, rfl, _⟩ := h; rfl) | (obtain ⟨_, _, _, _, _, _, _, rfl, _⟩ := h; rfl) | (obtain ⟨_, _, _, _, _, _, _, _, rfl, _⟩ := h; rfl)) (p_Disk_remove)
  obtain ⟨_, _, Mm_Disk_rename, FD_Disk_rename⟩ := A.D_Disk_rename
  have G_Disk_rename := g_Disk_rename (P := P) (w := w) (K := K) (T := T) (mg := mg) (base := base) A.fr Mm_Disk_rename FD_Disk_rename A.c_Disk G_Disk__check_file A.x_InvalidName G_Disk__step G_Disk__other_names G_Disk__with_names G_is_name A.n_Disk__tables (by intro pvs st Q PX h; first | (obtain ⟨_, _, _, _, _, rfl, _⟩ := h; rfl) | (obtain ⟨rfl, _⟩ := h; rfl) | (obtain ⟨_, rfl, _⟩ := h; rfl) | (obtain ⟨_, _, rfl, _⟩ := h; rfl) | (obtain ⟨_, _, _, rfl, _⟩ := h; rfl) | (obtain ⟨_, _, _, _, rfl, _⟩ := h; rfl) | (obtain ⟨_, _, _, _, _, _, rfl, _⟩ := h; rfl) | (obtain ⟨_, _, _, _, _, _, _, rfl, _⟩ := h; rfl) | (obtain ⟨_, _, _, _, _, _, _, _, rfl, _⟩ := h; rfl)) (p_Disk_rename)
  obtain ⟨_, _, Mm_Disk_sync_names, FD_Disk_sync_names⟩ := A.D_Disk_sync_names
  have G_Disk_sync_names := g_Disk_sync_names (P := P) (w := w) (K := K) (T := T) (mg := mg) (base := base) A.fr Mm_Disk_sync_names FD_Disk_sync_names A.c_Disk G_Disk__step A.n_Disk__tables (by intro pvs st Q PX h; first | (obtain ⟨_, _, _, rfl, _⟩ := h; rfl) | (obtain ⟨rfl, _⟩ := h; rfl) | (obtain ⟨_, rfl, _⟩ := h; rfl) | (obtain ⟨_, _, rfl, _⟩ := h; rfl) | (obtain ⟨_, _, _, _, rfl, _⟩ := h; rfl) | (obtain ⟨_, _, _, _, _, rfl, _⟩ := h; rfl) | (obtain ⟨_, _, _, _, _, _, rfl, _⟩ := h; rfl) | (obtain ⟨_, _, _, _, _, _, _, rfl, _⟩ := h; rfl) | (obtain ⟨_, _, _, _, _, _, _, _, rfl, _⟩ := h; rfl)) (p_Disk_sync_names)
  obtain ⟨_, _, Mm_Disk_put_firm, FD_Disk_put_firm⟩ := A.D_Disk_put_firm
  have G_Disk_put_firm := g_Disk_put_firm (P := P) (w := w) (K := K) (T := T) (mg := mg) (base := base) A.fr Mm_Disk_put_firm FD_Disk_put_firm A.c_DiskFile A.c_Disk G_DiskFile___init__ A.n_Disk__tables (by intro pvs st Q PX h; first | (obtain ⟨_, _, _, _, _, _, rfl, _⟩ := h; rfl) | (obtain ⟨rfl, _⟩ := h; rfl) | (obtain ⟨_, rfl, _⟩ := h; rfl) | (obtain ⟨_, _, rfl, _⟩ := h; rfl) | (obtain ⟨_, _, _, rfl, _⟩ := h; rfl) | (obtain ⟨_, _, _, _, rfl, _⟩ := h; rfl) | (obtain ⟨_, _, _, _, _, rfl, _⟩ := h; rfl) | (obtain ⟨_, _, _, _, _, _, _, rfl, _⟩ := h; rfl) | (obtain ⟨_, _, _, _, _, _, _, _, rfl, _⟩ := h; rfl)) (p_Disk_put_firm)
  obtain ⟨_, _, _, Mm_Disk_lost, FD_Disk_lost, et0_Disk_lost⟩ := A.D_Disk_lost
  have G1_Disk_lost := g1_Disk_lost (P := P) (w := w) (K := K) (T := T) (mg := mg) (base := base) A.fr Mm_Disk_lost FD_Disk_lost (List.cons_ne_nil _ _) (List.cons_ne_nil _ _) (fun T D doc pm an cdv ct us its ws h1 h2 h3 => match us, its, ws, h1, h2, h3 with | [_, _], [_], [_], _, _, _ => ⟨_, rfl, rfl⟩) A.c_Disk A.c_DiskFile A.x_InvalidOperation G_Disk___init__ G_Disk_put_firm G__are_choices G__choice_at A.n_Disk__tables A.n_DiskFile_text A.n_DiskFile_firm_count (by intro pvs st Q PX h; first | (obtain ⟨_, _, _, _, _, rfl, _⟩ := h; rfl) | (obtain ⟨rfl, _⟩ := h; rfl) | (obtain ⟨_, rfl, _⟩ := h; rfl) | (obtain ⟨_, _, rfl, _⟩ := h; rfl) | (obtain ⟨_, _, _, rfl, _⟩ := h; rfl) | (obtain ⟨_, _, _, _, rfl, _⟩ := h; rfl) | (obtain ⟨_, _, _, _, _, _, rfl, _⟩ := h; rfl) | (obtain ⟨_, _, _, _, _, _, _, rfl, _⟩ := h; rfl) | (obtain ⟨_, _, _, _, _, _, _, _, rfl, _⟩ := h; rfl)) (p_Disk_lost)
  have G0_Disk_lost := g0_Disk_lost (P := P) (w := w) (K := K) (T := T) (mg := mg) (base := base) A.fr Mm_Disk_lost FD_Disk_lost (List.cons_ne_nil _ _) (List.cons_ne_nil _ _) (fun T D doc pm an cdv ct us its ws h1 h2 h3 => match us, its, ws, h1, h2, h3 with | [_], [_], [_], _, _, _ => ⟨_, rfl, rfl⟩) (fun m H => .cons (et0_Disk_lost m H) .nil) A.c_Disk A.c_DiskFile A.x_InvalidOperation G_Disk___init__ G_Disk_put_firm G__are_choices G__choice_at A.n_Disk__tables A.n_DiskFile_text A.n_DiskFile_firm_count (by intro pvs st Q PX h; first | (obtain ⟨_, _, _, _, _, rfl, _⟩ := h; rfl) | (obtain ⟨rfl, _⟩ := h; rfl) | (obtain ⟨_, rfl, _⟩ := h; rfl) | (obtain ⟨_, _, rfl, _⟩ := h; rfl) | (obtain ⟨_, _, _, rfl, _⟩ := h; rfl) | (obtain ⟨_, _, _, _, rfl, _⟩ := h; rfl) | (obtain ⟨_, _, _, _, _, _, rfl, _⟩ := h; rfl) | (obtain ⟨_, _, _, _, _, _, _, rfl, _⟩ := h; rfl) | (obtain ⟨_, _, _, _, _, _, _, _, rfl, _⟩ := h; rfl)) (p_Disk_lost)
  obtain ⟨_, _, hs_Disk___str__, hf_Disk___str__, FD_Disk___str__⟩ := A.D_Disk___str__
  have G_Disk___str__ := g_Disk___str__ (P := P) (w := w) (K := K) (T := T) (mg := mg) (base := base) A.fr hs_Disk___str__ hf_Disk___str__ FD_Disk___str__ A.c_Disk A.n_Disk__steps A.n_Disk__tables (by intro pvs st Q PX h; first | (obtain ⟨_, _, _, rfl, _⟩ := h; rfl) | (obtain ⟨rfl, _⟩ := h; rfl) | (obtain ⟨_, rfl, _⟩ := h; rfl) | (obtain ⟨_, _, rfl, _⟩ := h; rfl) | (obtain ⟨_, _, _, _, rfl, _⟩ := h; rfl) | (obtain ⟨_, _, _, _, _, rfl, _⟩ := h; rfl) | (obtain ⟨_, _, _, _, _, _, rfl, _⟩ := h; rfl) | (obtain ⟨_, _, _, _, _, _, _, rfl, _⟩ := h; rfl) | (obtain ⟨_, _, _, _, _, _, _, _, rfl, _⟩ := h; rfl)) (p_Disk___str__)
  have G__law_dice := g__law_dice (P := P) (w := w) (K := K) (T := T) (mg := mg) (base := base) A.fr A.F__law_dice (by intro pvs st Q PX h; first | (obtain ⟨_, _, rfl, _⟩ := h; rfl) | (obtain ⟨rfl, _⟩ := h; rfl) | (obtain ⟨_, rfl, _⟩ := h; rfl) | (obtain ⟨_, _, _, rfl, _⟩ := h; rfl) | (obtain ⟨_, _, _, _, rfl, _⟩ := h; rfl) | (obtain ⟨_, _, _, _, _, rfl, _⟩ := h; rfl) | (obtain ⟨_, _, _, _, _, _, rfl, _⟩ := h; rfl) | (obtain ⟨_, _, _, _, _, _, _, rfl, _⟩ := h; rfl) | (obtain ⟨_, _, _, _, _, _, _, _, rfl, _⟩ := h; rfl)) (p__law_dice)
  have G__law_roll := g__law_roll (P := P) (w := w) (K := K) (T := T) (mg := mg) (base := base) A.fr A.F__law_roll (by intro pvs st Q PX h; first | (obtain ⟨_, _, _, rfl, _⟩ := h; rfl) | (obtain ⟨rfl, _⟩ := h; rfl) | (obtain ⟨_, rfl, _⟩ := h; rfl) | (obtain ⟨_, _, rfl, _⟩ := h; rfl) | (obtain ⟨_, _, _, _, rfl, _⟩ := h; rfl) | (obtain ⟨_, _, _, _, _, rfl, _⟩ := h; rfl) | (obtain ⟨_, _, _, _, _, _, rfl, _⟩ := h; rfl) | (obtain ⟨_, _, _, _, _, _, _, rfl, _⟩ := h; rfl) | (obtain ⟨_, _, _, _, _, _, _, _, rfl, _⟩ := h; rfl)) (p__law_roll)
  have G__law_one_of := g__law_one_of (P := P) (w := w) (K := K) (T := T) (mg := mg) (base := base) A.fr A.F__law_one_of G__law_roll (by intro pvs st Q PX h; first | (obtain ⟨_, _, _, rfl, _⟩ := h; rfl) | (obtain ⟨rfl, _⟩ := h; rfl) | (obtain ⟨_, rfl, _⟩ := h; rfl) | (obtain ⟨_, _, rfl, _⟩ := h; rfl) | (obtain ⟨_, _, _, _, rfl, _⟩ := h; rfl) | (obtain ⟨_, _, _, _, _, rfl, _⟩ := h; rfl) | (obtain ⟨_, _, _, _, _, _, rfl, _⟩ := h; rfl) | (obtain ⟨_, _, _, _, _, _, _, rfl, _⟩ := h; rfl) | (obtain ⟨_, _, _, _, _, _, _, _, rfl, _⟩ := h; rfl)) (p__law_one_of)
  have G__law_new := g__law_new (P := P) (w := w) (K := K) (T := T) (mg := mg) (base := base) A.fr A.F__law_new (by intro pvs st Q PX h; first | (obtain ⟨_, rfl, _⟩ := h; rfl) | (obtain ⟨rfl, _⟩ := h; rfl) | (obtain ⟨_, _, rfl, _⟩ := h; rfl) | (obtain ⟨_, _, _, rfl, _⟩ := h; rfl) | (obtain ⟨_, _, _, _, rfl, _⟩ := h; rfl) | (obtain ⟨_, _, _, _, _, rfl, _⟩ := h; rfl) | (obtain ⟨_, _, _, _, _, _, rfl, _⟩ := h; rfl) | (obtain ⟨_, _, _, _, _, _, _, rfl, _⟩ := h; rfl) | (obtain ⟨_, _, _, _, _, _, _, _, rfl, _⟩ := h; rfl)) (p__law_new)
  have G__law_names := g__law_names (P := P) (w := w) (K := K) (T := T) (mg := mg) (base := base) A.fr A.F__law_names (by intro pvs st Q PX h; first | (obtain ⟨_, _, _, _, rfl, _⟩ := h; rfl) | (obtain ⟨rfl, _⟩ := h; rfl) | (obtain ⟨_, rfl, _⟩ := h; rfl) | (obtain ⟨_, _, rfl, _⟩ := h; rfl) | (obtain ⟨_, _, _, rfl, _⟩ := h; rfl) | (obtain ⟨_, _, _, _, _, rfl, _⟩ := h; rfl) | (obtain ⟨_, _, _, _, _, _, rfl, _⟩ := h; rfl) | (obtain ⟨_, _, _, _, _, _, _, rfl, _⟩ := h; rfl) | (obtain ⟨_, _, _, _, _, _, _, _, rfl, _⟩ := h; rfl)) (p__law_names)
  have G__law_is_name := g__law_is_name (P := P) (w := w) (K := K) (T := T) (mg := mg) (base := base) A.fr A.F__law_is_name (by intro pvs st Q PX h; first | (obtain ⟨_, rfl, _⟩ := h; rfl) | (obtain ⟨rfl, _⟩ := h; rfl) | (obtain ⟨_, _, rfl, _⟩ := h; rfl) | (obtain ⟨_, _, _, rfl, _⟩ := h; rfl) | (obtain ⟨_, _, _, _, rfl, _⟩ := h; rfl) | (obtain ⟨_, _, _, _, _, rfl, _⟩ := h; rfl) | (obtain ⟨_, _, _, _, _, _, rfl, _⟩ := h; rfl) | (obtain ⟨_, _, _, _, _, _, _, rfl, _⟩ := h; rfl) | (obtain ⟨_, _, _, _, _, _, _, _, rfl, _⟩ := h; rfl)) (p__law_is_name)
  have G__law_step := g__law_step (P := P) (w := w) (K := K) (T := T) (mg := mg) (base := base) A.fr A.F__law_step G__law_names G__law_is_name (by intro pvs st Q PX h; first | (obtain ⟨_, _, _, _, _, _, rfl, _⟩ := h; rfl) | (obtain ⟨rfl, _⟩ := h; rfl) | (obtain ⟨_, rfl, _⟩ := h; rfl) | (obtain ⟨_, _, rfl, _⟩ := h; rfl) | (obtain ⟨_, _, _, rfl, _⟩ := h; rfl) | (obtain ⟨_, _, _, _, rfl, _⟩ := h; rfl) | (obtain ⟨_, _, _, _, _, rfl, _⟩ := h; rfl) | (obtain ⟨_, _, _, _, _, _, _, rfl, _⟩ := h; rfl) | (obtain ⟨_, _, _, _, _, _, _, _, rfl, _⟩ := h; rfl)) (p__law_step)
  have G__law_lost := g__law_lost (P := P) (w := w) (K := K) (T := T) (mg := mg) (base := base) A.fr A.F__law_lost G__law_names G__law_new (by intro pvs st Q PX h; first | (obtain ⟨_, _, _, _, _, rfl, _⟩ := h; rfl) | (obtain ⟨rfl, _⟩ := h; rfl) | (obtain ⟨_, rfl, _⟩ := h; rfl) | (obtain ⟨_, _, rfl, _⟩ := h; rfl) | (obtain ⟨_, _, _, rfl, _⟩ := h; rfl) | (obtain ⟨_, _, _, _, rfl, _⟩ := h; rfl) | (obtain ⟨_, _, _, _, _, _, rfl, _⟩ := h; rfl) | (obtain ⟨_, _, _, _, _, _, _, rfl, _⟩ := h; rfl) | (obtain ⟨_, _, _, _, _, _, _, _, rfl, _⟩ := h; rfl)) (p__law_lost)
  have G__law_done := g__law_done (P := P) (w := w) (K := K) (T := T) (mg := mg) (base := base) A.fr A.F__law_done A.M A.c_Disk G_Disk_append G_Disk_sync G_Disk_remove G_Disk_sync_names G_Disk_rename (by intro pvs st Q PX h; first | (obtain ⟨_, _, _, _, _, _, rfl, _⟩ := h; rfl) | (obtain ⟨rfl, _⟩ := h; rfl) | (obtain ⟨_, rfl, _⟩ := h; rfl) | (obtain ⟨_, _, rfl, _⟩ := h; rfl) | (obtain ⟨_, _, _, rfl, _⟩ := h; rfl) | (obtain ⟨_, _, _, _, rfl, _⟩ := h; rfl) | (obtain ⟨_, _, _, _, _, rfl, _⟩ := h; rfl) | (obtain ⟨_, _, _, _, _, _, _, rfl, _⟩ := h; rfl) | (obtain ⟨_, _, _, _, _, _, _, _, rfl, _⟩ := h; rfl)) (p__law_done A.E)
  have G__law_is_like := g__law_is_like (P := P) (w := w) (K := K) (T := T) (mg := mg) (base := base) A.fr A.F__law_is_like A.c_Disk G__law_names G_Disk___contains__ G_Disk___str__ G_Disk_names G_Disk_steps G_Disk___len__ G_Disk_read (by intro pvs st Q PX h; first | (obtain ⟨_, _, _, _, rfl, _⟩ := h; rfl) | (obtain ⟨rfl, _⟩ := h; rfl) | (obtain ⟨_, rfl, _⟩ := h; rfl) | (obtain ⟨_, _, rfl, _⟩ := h; rfl) | (obtain ⟨_, _, _, rfl, _⟩ := h; rfl) | (obtain ⟨_, _, _, _, _, rfl, _⟩ := h; rfl) | (obtain ⟨_, _, _, _, _, _, rfl, _⟩ := h; rfl) | (obtain ⟨_, _, _, _, _, _, _, rfl, _⟩ := h; rfl) | (obtain ⟨_, _, _, _, _, _, _, _, rfl, _⟩ := h; rfl)) (p__law_is_like)
  have G__law_disks_right := g__law_disks_right (P := P) (w := w) (K := K) (T := T) (mg := mg) (base := base) A.fr A.F__law_disks_right A.M A.c_Disk G_Disk___init__ G__law_one_of G__law_roll G__law_new G1_Disk_lost G__law_is_like G0_Disk_lost G_Disk_read G__law_lost G__law_done G__law_step (by intro pvs st Q PX h; first | (obtain ⟨_, rfl, _⟩ := h; rfl) | (obtain ⟨rfl, _⟩ := h; rfl) | (obtain ⟨_, _, rfl, _⟩ := h; rfl) | (obtain ⟨_, _, _, rfl, _⟩ := h; rfl) | (obtain ⟨_, _, _, _, rfl, _⟩ := h; rfl) | (obtain ⟨_, _, _, _, _, rfl, _⟩ := h; rfl) | (obtain ⟨_, _, _, _, _, _, rfl, _⟩ := h; rfl) | (obtain ⟨_, _, _, _, _, _, _, rfl, _⟩ := h; rfl) | (obtain ⟨_, _, _, _, _, _, _, _, rfl, _⟩ := h; rfl)) (p__law_disks_right A.E)
  have G_law := g_law (P := P) (w := w) (K := K) (T := T) (mg := mg) (base := base) A.fr A.F_law G__law_disks_right G__law_dice (by intro pvs st Q PX h; first | (obtain ⟨_, rfl, _⟩ := h; rfl) | (obtain ⟨rfl, _⟩ := h; rfl) | (obtain ⟨_, _, rfl, _⟩ := h; rfl) | (obtain ⟨_, _, _, rfl, _⟩ := h; rfl) | (obtain ⟨_, _, _, _, rfl, _⟩ := h; rfl) | (obtain ⟨_, _, _, _, _, rfl, _⟩ := h; rfl) | (obtain ⟨_, _, _, _, _, _, rfl, _⟩ := h; rfl) | (obtain ⟨_, _, _, _, _, _, _, rfl, _⟩ := h; rfl) | (obtain ⟨_, _, _, _, _, _, _, _, rfl, _⟩ := h; rfl)) (p_law)
  exact G_law
end
end K5
set_option Elab.async false
set_option linter.all false
set_option maxRecDepth 100000
set_option maxHeartbeats 0
namespace K5
open PySem PySem.Spec PyProof.Rows L2 Sm
theorem facts {w : World} {K : PySem.W.Frag} {h base : Heap} {mg : Str → Option Value} (X : K.In h) (G : h.Ns mainGlobals mg) (c : SaysP fa fn pr tf ex w h K) (TB : ∀ p ∈ tf.map (He.cT K), LamX.TabB base mg p.1 p.2) : Facts K mg base (tbs K) := by
  have hx := c.x.more
  unfold ex at hx
  simp only [Bool.and_eq_true] at hx
  obtain ⟨⟨⟨⟨⟨⟨⟨⟨⟨⟨⟨b1, b2⟩, b3⟩, b4⟩, b5⟩, b6⟩, b7⟩, b8⟩, b9⟩, b10⟩, b11⟩, b12⟩ := hx
  have ne_1_0 := of_decide_eq_true b12
  have m_ten_to := He.glo_ok X G (c.x.t.d.fact 0 (f := .glo "ten_to") rfl)
  have m_has_more_digits := He.glo_ok X G (c.x.t.d.fact 1 (f := .glo "has_more_digits") rfl)
  have m_is_integer_of := He.glo_ok X G (c.x.t.d.fact 2 (f := .glo "is_integer_of") rfl)
  have m_is_passed_integer := He.glo_ok X G (c.x.t.d.fact 3 (f := .glo "is_passed_integer") rfl)
  have m_is_between := He.glo_ok X G (c.x.t.d.fact 4 (f := .glo "is_between") rfl)
  have m_is_printable := He.glo_ok X G (c.x.t.d.fact 5 (f := .glo "is_printable") rfl)
  have m_is_name := He.glo_ok X G (c.x.t.d.fact 6 (f := .glo "is_name") rfl)
  have m__is_text := He.glo_ok X G (c.x.t.d.fact 7 (f := .glo "_is_text") rfl)
  have m__are_choices := He.glo_ok X G (c.x.t.d.fact 8 (f := .glo "_are_choices") rfl)
  have m__choice_at := He.glo_ok X G (c.x.t.d.fact 9 (f := .glo "_choice_at") rfl)
  have m__law_dice := He.glo_ok X G (c.x.t.d.fact 10 (f := .glo "_law_dice") rfl)
  have m__law_roll := He.glo_ok X G (c.x.t.d.fact 11 (f := .glo "_law_roll") rfl)
  have m__law_one_of := He.glo_ok X G (c.x.t.d.fact 12 (f := .glo "_law_one_of") rfl)
  have m__law_word_of := He.glo_ok X G (c.x.t.d.fact 13 (f := .glo "_law_word_of") rfl)
  have m__law_new := He.glo_ok X G (c.x.t.d.fact 14 (f := .glo "_law_new") rfl)
  have m__law_names := He.glo_ok X G (c.x.t.d.fact 15 (f := .glo "_law_names") rfl)
  have m__law_step := He.glo_ok X G (c.x.t.d.fact 16 (f := .glo "_law_step") rfl)
  have m__law_is_name := He.glo_ok X G (c.x.t.d.fact 17 (f := .glo "_law_is_name") rfl)
  have m__law_lost := He.glo_ok X G (c.x.t.d.fact 18 (f := .glo "_law_lost") rfl)
  have m__law_done := He.glo_ok X G (c.x.t.d.fact 19 (f := .glo "_law_done") rfl)
  have m__law_is_like := He.glo_ok X G (c.x.t.d.fact 20 (f := .glo "_law_is_like") rfl)
  have m__law_disks_right := He.glo_ok X G (c.x.t.d.fact 21 (f := .glo "_law_disks_right") rfl)
  have m_law := He.glo_ok X G (c.x.t.d.fact 22 (f := .glo "law") rfl)
  have m_DiskFile := He.glo_ok X G (c.x.t.d.fact 23 (f := .glo "DiskFile") rfl)
  have m_Disk := He.glo_ok X G (c.x.t.d.fact 24 (f := .glo "Disk") rfl)
  have m_InvalidNumber := He.glo_ok X G (c.x.t.d.fact 25 (f := .glo "InvalidNumber") rfl)
  have m_UnknownName := He.glo_ok X G (c.x.t.d.fact 26 (f := .glo "UnknownName") rfl)
  have m_PowerLost := He.glo_ok X G (c.x.t.d.fact 27 (f := .glo "PowerLost") rfl)
  have m_InvalidName := He.glo_ok X G (c.x.t.d.fact 28 (f := .glo "InvalidName") rfl)
  have m_InvalidOperation := He.glo_ok X G (c.x.t.d.fact 29 (f := .glo "InvalidOperation") rfl)
  have m_TooMany := He.glo_ok X G (c.x.t.d.fact 30 (f := .glo "TooMany") rfl)
  obtain ⟨fd_ten_to, F_ten_to⟩ := c.x.t.d.def_ 0 (d := dg 3 "ten_to" []) rfl
  obtain ⟨fd_has_more_digits, F_has_more_digits⟩ := c.x.t.d.def_ 1 (d := dg 4 "has_more_digits" []) rfl
  obtain ⟨fd_is_integer_of, F_is_integer_of⟩ := c.x.t.d.def_ 2 (d := dg 5 "is_integer_of" []) rfl
  obtain ⟨fd_is_passed_integer, F_is_passed_integer⟩ := c.x.t.d.def_ 3 (d := dg 6 "is_passed_integer" []) rfl
  obtain ⟨fd_is_between, F_is_between⟩ := c.x.t.d.def_ 4 (d := dg 7 "is_between" []) rfl
  obtain ⟨fd_is_printable, F_is_printable⟩ := c.x.t.d.def_ 5 (d := dg 9 "is_printable" []) rfl
  obtain ⟨fd_is_name, F_is_name⟩ := c.x.t.d.def_ 6 (d := dg 22 "is_name" []) rfl
  obtain ⟨fd_DiskFile___init__, F_DiskFile___init__⟩ := c.x.t.d.def_ 7 (d := dq "DiskFile" "__init__" "DiskFile.__init__" 27 0 [] []) rfl
  obtain ⟨fd__is_text, F__is_text⟩ := c.x.t.d.def_ 8 (d := dg 28 "_is_text" []) rfl
  obtain ⟨fd__are_choices, F__are_choices⟩ := c.x.t.d.def_ 9 (d := dg 29 "_are_choices" []) rfl
  obtain ⟨fd__choice_at, F__choice_at⟩ := c.x.t.d.def_ 10 (d := dg 30 "_choice_at" []) rfl
  obtain ⟨fd_Disk___init__, F_Disk___init__⟩ := c.x.t.d.def_ 11 (d := dq "Disk" "__init__" "Disk.__init__" 31 0 [] [("power", .non)]) rfl
  obtain ⟨fd_Disk__check_file, F_Disk__check_file⟩ := c.x.t.d.def_ 12 (d := dq "Disk" "_check_file" "Disk._check_file" 31 3 [] []) rfl
  obtain ⟨fd_Disk__step, F_Disk__step⟩ := c.x.t.d.def_ 13 (d := dq "Disk" "_step" "Disk._step" 31 4 [] []) rfl
  obtain ⟨fd_Disk__with_names, F_Disk__with_names⟩ := c.x.t.d.def_ 14 (d := dq "Disk" "_with_names" "Disk._with_names" 31 5 [] []) rfl
  obtain ⟨fd_Disk__other_names, F_Disk__other_names⟩ := c.x.t.d.def_ 15 (d := dq "Disk" "_other_names" "Disk._other_names" 31 6 [] []) rfl
  obtain ⟨fd_Disk_append, F_Disk_append⟩ := c.x.t.d.def_ 16 (d := dq "Disk" "append" "Disk.append" 31 7 [] []) rfl
  obtain ⟨fd_Disk_sync, F_Disk_sync⟩ := c.x.t.d.def_ 17 (d := dq "Disk" "sync" "Disk.sync" 31 8 [] []) rfl
  obtain ⟨fd_Disk_remove, F_Disk_remove⟩ := c.x.t.d.def_ 18 (d := dq "Disk" "remove" "Disk.remove" 31 9 [] []) rfl
  obtain ⟨fd_Disk_rename, F_Disk_rename⟩ := c.x.t.d.def_ 19 (d := dq "Disk" "rename" "Disk.rename" 31 10 [] []) rfl
  obtain ⟨fd_Disk_sync_names, F_Disk_sync_names⟩ := c.x.t.d.def_ 20 (d := dq "Disk" "sync_names" "Disk.sync_names" 31 11 [] []) rfl
  obtain ⟨fd_Disk_read, F_Disk_read⟩ := c.x.t.d.def_ 21 (d := dq "Disk" "read" "Disk.read" 31 12 [] []) rfl
  obtain ⟨fd_Disk_lost, F_Disk_lost⟩ := c.x.t.d.def_ 22 (d := dq "Disk" "lost" "Disk.lost" 31 15 [.adr (He.dflAt ("Disk", some "lost") 0)] [("power", .non)]) rfl
  obtain ⟨fd_Disk_put_firm, F_Disk_put_firm⟩ := c.x.t.d.def_ 23 (d := dq "Disk" "put_firm" "Disk.put_firm" 31 16 [] []) rfl
  obtain ⟨fd_Disk___contains__, F_Disk___contains__⟩ := c.x.t.d.def_ 24 (d := dq "Disk" "__contains__" "Disk.__contains__" 31 17 [] []) rfl
  obtain ⟨fd_Disk___len__, F_Disk___len__⟩ := c.x.t.d.def_ 25 (d := dq "Disk" "__len__" "Disk.__len__" 31 18 [] []) rfl
  obtain ⟨fd_Disk___str__, F_Disk___str__⟩ := c.x.t.d.def_ 26 (d := dq "Disk" "__str__" "Disk.__str__" 31 19 [] []) rfl
  obtain ⟨fd__law_dice, F__law_dice⟩ := c.x.t.d.def_ 27 (d := dg 33 "_law_dice" []) rfl
  obtain ⟨fd__law_roll, F__law_roll⟩ := c.x.t.d.def_ 28 (d := dg 34 "_law_roll" []) rfl
  obtain ⟨fd__law_one_of, F__law_one_of⟩ := c.x.t.d.def_ 29 (d := dg 35 "_law_one_of" []) rfl
  obtain ⟨fd__law_word_of, F__law_word_of⟩ := c.x.t.d.def_ 30 (d := dg 36 "_law_word_of" []) rfl
  obtain ⟨fd__law_new, F__law_new⟩ := c.x.t.d.def_ 31 (d := dg 37 "_law_new" []) rfl
  obtain ⟨fd__law_names, F__law_names⟩ := c.x.t.d.def_ 32 (d := dg 38 "_law_names" []) rfl
  obtain ⟨fd__law_step, F__law_step⟩ := c.x.t.d.def_ 33 (d := dg 39 "_law_step" []) rfl
  obtain ⟨fd__law_is_name, F__law_is_name⟩ := c.x.t.d.def_ 34 (d := dg 40 "_law_is_name" []) rfl
  obtain ⟨fd__law_lost, F__law_lost⟩ := c.x.t.d.def_ 35 (d := dg 41 "_law_lost" []) rfl
  obtain ⟨fd__law_done, F__law_done⟩ := c.x.t.d.def_ 36 (d := dg 42 "_law_done" []) rfl
  obtain ⟨fd__law_is_like, F__law_is_like⟩ := c.x.t.d.def_ 37 (d := dg 43 "_law_is_like" []) rfl
  obtain ⟨fd__law_disks_right, F__law_disks_right⟩ := c.x.t.d.def_ 38 (d := dg 44 "_law_disks_right" []) rfl
  obtain ⟨fd_law, F_law⟩ := c.x.t.d.def_ 39 (d := dg 45 "law" []) rfl
  obtain ⟨fi_InvalidNumber, I_InvalidNumber⟩ := c.x.t.d.def_ 40 (d := di "InvalidNumber" "InvalidNumber.__init__" 14) rfl
  obtain ⟨fi_UnknownName, I_UnknownName⟩ := c.x.t.d.def_ 41 (d := di "UnknownName" "UnknownName.__init__" 15) rfl
  obtain ⟨fi_PowerLost, I_PowerLost⟩ := c.x.t.d.def_ 42 (d := di "PowerLost" "PowerLost.__init__" 17) rfl
  obtain ⟨fi_InvalidName, I_InvalidName⟩ := c.x.t.d.def_ 43 (d := di "InvalidName" "CubeError.__init__" 11) rfl
  obtain ⟨fi_InvalidOperation, I_InvalidOperation⟩ := c.x.t.d.def_ 44 (d := di "InvalidOperation" "CubeError.__init__" 11) rfl
  obtain ⟨fi_TooMany, I_TooMany⟩ := c.x.t.d.def_ 45 (d := di "TooMany" "TooMany.__init__" 16) rfl
  obtain ⟨P_Disk_names, fd_Disk_names, F_Disk_names⟩ := c.prop 0 (q := ⟨"Disk", "names", dq "Disk" "names" "Disk.names" 31 1 [] []⟩) rfl
  obtain ⟨P_Disk_steps, fd_Disk_steps, F_Disk_steps⟩ := c.prop 1 (q := ⟨"Disk", "steps", dq "Disk" "steps" "Disk.steps" 31 2 [] []⟩) rfl
  have a_InvalidNumber := ad_ga m_InvalidNumber
  have a_UnknownName := ad_ga m_UnknownName
  have a_PowerLost := ad_ga m_PowerLost
  have a_InvalidName := ad_ga m_InvalidName
  have a_InvalidOperation := ad_ga m_InvalidOperation
  have a_TooMany := ad_ga m_TooMany
  have a_DiskFile := ad_ga m_DiskFile
  have a_Disk := ad_ga m_Disk
  exact {
    fr := by
      intro x hx
      simp only [frees, List.mem_cons, List.not_mem_nil, or_false] at hx
      rcases hx with rfl | rfl | rfl | rfl | rfl | rfl | rfl | rfl | rfl | rfl | rfl | rfl | rfl | rfl | rfl
      · exact He.free_ok X G (c.x.t.d.fact 38 (f := .free "type") rfl)
      · exact He.free_ok X G (c.x.t.d.fact 39 (f := .free "int") rfl)
      · exact He.free_ok X G (c.x.t.d.fact 40 (f := .free "len") rfl)
      · exact He.free_ok X G (c.x.t.d.fact 41 (f := .free "abs") rfl)
      · exact He.free_ok X G (c.x.t.d.fact 42 (f := .free "range") rfl)
      · exact He.free_ok X G (c.x.t.d.fact 43 (f := .free "str") rfl)
      · exact He.free_ok X G (c.x.t.d.fact 44 (f := .free "max") rfl)
      · exact He.free_ok X G (c.x.t.d.fact 45 (f := .free "min") rfl)
      · exact He.free_ok X G (c.x.t.d.fact 46 (f := .free "list") rfl)
      · exact He.free_ok X G (c.x.t.d.fact 47 (f := .free "enumerate") rfl)
      · exact He.free_ok X G (c.x.t.d.fact 48 (f := .free "tuple") rfl)
      · exact He.free_ok X G (c.x.t.d.fact 49 (f := .free "all") rfl)
      · exact He.free_ok X G (c.x.t.d.fact 50 (f := .free "isinstance") rfl)
      · exact He.free_ok X G (c.x.t.d.fact 51 (f := .free "dict") rfl)
      · exact He.free_ok X G (c.x.t.d.fact 52 (f := .free "sorted") rfl)
    F_ten_to := ⟨_, _, F_ten_to, m_ten_to⟩
    F_has_more_digits := ⟨_, _, F_has_more_digits, m_has_more_digits⟩
    F_is_integer_of := ⟨_, _, F_is_integer_of, m_is_integer_of⟩
    F_is_passed_integer := ⟨_, _, F_is_passed_integer, m_is_passed_integer⟩
    F_is_between := ⟨_, _, F_is_between, m_is_between⟩
    F_is_printable := ⟨_, _, F_is_printable, m_is_printable⟩
    F_is_name := ⟨_, _, F_is_name, m_is_name⟩
    D_DiskFile___init__ := ⟨_, _, (by rw [a_DiskFile]; exact m_DiskFile), (by rw [a_DiskFile]; exact He.mkr_ok (c.x.t.d.fact 85 (f := .mkr "DiskFile") rfl)), F_DiskFile___init__⟩
    F__is_text := ⟨_, _, F__is_text, m__is_text⟩
    F__are_choices := ⟨_, _, F__are_choices, m__are_choices⟩
    F__choice_at := ⟨_, _, F__choice_at, m__choice_at⟩
    D_Disk___init__ := ⟨_, _, (by rw [a_Disk]; exact m_Disk), (by rw [a_Disk]; exact He.mkr_ok (c.x.t.d.fact 86 (f := .mkr "Disk") rfl)), F_Disk___init__⟩
    D_Disk_names := ⟨_, _, _, (by rw [a_Disk]; exact P_Disk_names), F_Disk_names⟩
    D_Disk_steps := ⟨_, _, _, (by rw [a_Disk]; exact P_Disk_steps), F_Disk_steps⟩
    D_Disk__check_file := ⟨_, _, (by rw [a_Disk]; exact He.meth_ok (c.x.t.d.fact 87 (f := .meth "Disk" "_check_file") rfl)), F_Disk__check_file⟩
    D_Disk__step := ⟨_, _, (by rw [a_Disk]; exact He.meth_ok (c.x.t.d.fact 88 (f := .meth "Disk" "_step") rfl)), F_Disk__step⟩
    D_Disk__with_names := ⟨_, _, (by rw [a_Disk]; exact He.meth_ok (c.x.t.d.fact 89 (f := .meth "Disk" "_with_names") rfl)), F_Disk__with_names⟩
    D_Disk__other_names := ⟨_, _, (by rw [a_Disk]; exact He.meth_ok (c.x.t.d.fact 90 (f := .meth "Disk" "_other_names") rfl)), F_Disk__other_names⟩
    D_Disk_append := ⟨_, _, (by rw [a_Disk]; exact He.meth_ok (c.x.t.d.fact 91 (f := .meth "Disk" "append") rfl)), F_Disk_append⟩
    D_Disk_sync := ⟨_, _, (by rw [a_Disk]; exact He.meth_ok (c.x.t.d.fact 92 (f := .meth "Disk" "sync") rfl)), F_Disk_sync⟩
    D_Disk_remove := ⟨_, _, (by rw [a_Disk]; exact He.meth_ok (c.x.t.d.fact 93 (f := .meth "Disk" "remove") rfl)), F_Disk_remove⟩
    D_Disk_rename := ⟨_, _, (by rw [a_Disk]; exact He.meth_ok (c.x.t.d.fact 94 (f := .meth "Disk" "rename") rfl)), F_Disk_rename⟩
    D_Disk_sync_names := ⟨_, _, (by rw [a_Disk]; exact He.meth_ok (c.x.t.d.fact 95 (f := .meth "Disk" "sync_names") rfl)), F_Disk_sync_names⟩
    D_Disk_read := ⟨_, _, (by rw [a_Disk]; exact He.meth_ok (c.x.t.d.fact 96 (f := .meth "Disk" "read") rfl)), F_Disk_read⟩
    D_Disk_lost := ⟨_, _, _, (by rw [a_Disk]; exact He.meth_ok (c.x.t.d.fact 97 (f := .meth "Disk" "lost") rfl)), F_Disk_lost, fun m H => etB_ok b11 m H⟩
    D_Disk_put_firm := ⟨_, _, (by rw [a_Disk]; exact He.meth_ok (c.x.t.d.fact 98 (f := .meth "Disk" "put_firm") rfl)), F_Disk_put_firm⟩
    D_Disk___contains__ := ⟨_, _, (by rw [a_Disk]; exact (He.meth_ok (c.x.t.d.fact 99 (f := .meth "Disk" "__contains__") rfl)).at_), (He.meth_ok (c.x.t.d.fact 99 (f := .meth "Disk" "__contains__") rfl)).fn, F_Disk___contains__⟩
    D_Disk___len__ := ⟨_, _, (by rw [a_Disk]; exact (He.meth_ok (c.x.t.d.fact 100 (f := .meth "Disk" "__len__") rfl)).at_), (He.meth_ok (c.x.t.d.fact 100 (f := .meth "Disk" "__len__") rfl)).fn, F_Disk___len__⟩
    D_Disk___str__ := ⟨_, _, (by rw [a_Disk]; exact (He.meth_ok (c.x.t.d.fact 101 (f := .meth "Disk" "__str__") rfl)).at_), (He.meth_ok (c.x.t.d.fact 101 (f := .meth "Disk" "__str__") rfl)).fn, F_Disk___str__⟩
    F__law_dice := ⟨_, _, F__law_dice, m__law_dice⟩
    F__law_roll := ⟨_, _, F__law_roll, m__law_roll⟩
    F__law_one_of := ⟨_, _, F__law_one_of, m__law_one_of⟩
    F__law_new := ⟨_, _, F__law_new, m__law_new⟩
    F__law_names := ⟨_, _, F__law_names, m__law_names⟩
    F__law_step := ⟨_, _, F__law_step, m__law_step⟩
    F__law_is_name := ⟨_, _, F__law_is_name, m__law_is_name⟩
    F__law_lost := ⟨_, _, F__law_lost, m__law_lost⟩
    F__law_done := by
      obtain ⟨oc, od, dV, kV, doc, pm, an, cdv, ct, osl, e, lk, hcd, _, _⟩ := F__law_done.ex
      obtain ⟨cc, hcc⟩ := He.codeIn_ref hcd
      have e2 : fd__law_done.code = .ref cc := by rw [e, ← hcc]
      have e3 : He.codeOf K ("_law_done", none) = cc := He.codeOf_eq lk e2
      refine ⟨_, _, He.codeOf K ("_law_done", none), (He.cT K ("_law_done", none)).2, F__law_done, m__law_done, by rw [e3]; exact e2, TB _ (.head _), (.head _), fun p hp hpe => ?_⟩
      simp only [tbs, List.mem_cons, List.not_mem_nil, or_false] at hp
      rcases hp with rfl | rfl
      · rfl
      · exact absurd hpe ne_1_0
    F__law_is_like := ⟨_, _, F__law_is_like, m__law_is_like⟩
    F__law_disks_right := by
      obtain ⟨oc, od, dV, kV, doc, pm, an, cdv, ct, osl, e, lk, hcd, _, _⟩ := F__law_disks_right.ex
      obtain ⟨cc, hcc⟩ := He.codeIn_ref hcd
      have e2 : fd__law_disks_right.code = .ref cc := by rw [e, ← hcc]
      have e3 : He.codeOf K ("_law_disks_right", none) = cc := He.codeOf_eq lk e2
      refine ⟨_, _, He.codeOf K ("_law_disks_right", none), (He.cT K ("_law_disks_right", none)).2, F__law_disks_right, m__law_disks_right, by rw [e3]; exact e2, TB _ (.tail _ (.head _)), (.tail _ (.head _)), fun p hp hpe => ?_⟩
      simp only [tbs, List.mem_cons, List.not_mem_nil, or_false] at hp
      rcases hp with rfl | rfl
      · exact absurd hpe.symm ne_1_0
      · rfl
    F_law := ⟨_, _, F_law, m_law⟩
    M := ⟨⟨_, _, F__law_word_of, m__law_word_of⟩, (by rw [a_InvalidName]; exact m_InvalidName), ⟨by rw [a_InvalidNumber]; exact xfB_ok b7, by rw [a_InvalidNumber]; exact He.noat_ok (c.x.t.d.fact 74 (f := .noat "InvalidNumber" "given") rfl), by rw [a_InvalidNumber]; exact m_InvalidNumber⟩, (by rw [a_InvalidOperation]; exact m_InvalidOperation), ⟨by rw [a_UnknownName]; exact xfB_ok b8, by rw [a_UnknownName]; exact He.noat_ok (c.x.t.d.fact 75 (f := .noat "UnknownName" "asked") rfl), by rw [a_UnknownName]; exact m_UnknownName⟩, ⟨by rw [a_TooMany]; exact xfB_ok b9, by rw [a_TooMany]; exact He.noat_ok (c.x.t.d.fact 76 (f := .noat "TooMany" "limit") rfl), by rw [a_TooMany]; exact m_TooMany⟩, ⟨by rw [a_PowerLost]; exact xfB_ok b10, by rw [a_PowerLost]; exact He.noat_ok (c.x.t.d.fact 77 (f := .noat "PowerLost" "taken") rfl), by rw [a_PowerLost]; exact m_PowerLost⟩⟩
    E := ⟨(by rw [a_InvalidName]; exact of_decide_eq_true (c.x.t.d.fact 53 (f := .exm "InvalidName" "InvalidName" true) rfl)), (by rw [a_InvalidNumber, a_InvalidName]; exact of_decide_eq_true (c.x.t.d.fact 54 (f := .exm "InvalidNumber" "InvalidName" false) rfl)), (by rw [a_InvalidNumber]; exact of_decide_eq_true (c.x.t.d.fact 55 (f := .exm "InvalidNumber" "InvalidNumber" true) rfl)), (by rw [a_InvalidOperation, a_InvalidName]; exact of_decide_eq_true (c.x.t.d.fact 56 (f := .exm "InvalidOperation" "InvalidName" false) rfl)), (by rw [a_InvalidOperation, a_InvalidNumber]; exact of_decide_eq_true (c.x.t.d.fact 57 (f := .exm "InvalidOperation" "InvalidNumber" false) rfl)), (by rw [a_InvalidOperation]; exact of_decide_eq_true (c.x.t.d.fact 58 (f := .exm "InvalidOperation" "InvalidOperation" true) rfl)), (by rw [a_UnknownName, a_InvalidName]; exact of_decide_eq_true (c.x.t.d.fact 59 (f := .exm "UnknownName" "InvalidName" false) rfl)), (by rw [a_UnknownName, a_InvalidNumber]; exact of_decide_eq_true (c.x.t.d.fact 60 (f := .exm "UnknownName" "InvalidNumber" false) rfl)), (by rw [a_UnknownName, a_InvalidOperation]; exact of_decide_eq_true (c.x.t.d.fact 61 (f := .exm "UnknownName" "InvalidOperation" false) rfl)), (by rw [a_UnknownName]; exact of_decide_eq_true (c.x.t.d.fact 62 (f := .exm "UnknownName" "UnknownName" true) rfl)), (by rw [a_TooMany, a_InvalidName]; exact of_decide_eq_true (c.x.t.d.fact 63 (f := .exm "TooMany" "InvalidName" false) rfl)), (by rw [a_TooMany, a_InvalidNumber]; exact of_decide_eq_true (c.x.t.d.fact 64 (f := .exm "TooMany" "InvalidNumber" false) rfl)), (by rw [a_TooMany, a_InvalidOperation]; exact of_decide_eq_true (c.x.t.d.fact 65 (f := .exm "TooMany" "InvalidOperation" false) rfl)), (by rw [a_TooMany, a_UnknownName]; exact of_decide_eq_true (c.x.t.d.fact 66 (f := .exm "TooMany" "UnknownName" false) rfl)), (by rw [a_TooMany]; exact of_decide_eq_true (c.x.t.d.fact 67 (f := .exm "TooMany" "TooMany" true) rfl)), (by rw [a_PowerLost, a_InvalidName]; exact of_decide_eq_true (c.x.t.d.fact 68 (f := .exm "PowerLost" "InvalidName" false) rfl)), (by rw [a_PowerLost, a_InvalidNumber]; exact of_decide_eq_true (c.x.t.d.fact 69 (f := .exm "PowerLost" "InvalidNumber" false) rfl)), (by rw [a_PowerLost, a_InvalidOperation]; exact of_decide_eq_true (c.x.t.d.fact 70 (f := .exm "PowerLost" "InvalidOperation" false) rfl)), (by rw [a_PowerLost, a_UnknownName]; exact of_decide_eq_true (c.x.t.d.fact 71 (f := .exm "PowerLost" "UnknownName" false) rfl)), (by rw [a_PowerLost, a_TooMany]; exact of_decide_eq_true (c.x.t.d.fact 72 (f := .exm "PowerLost" "TooMany" false) rfl)), (by rw [a_PowerLost]; exact of_decide_eq_true (c.x.t.d.fact 73 (f := .exm "PowerLost" "PowerLost" true) rfl))⟩
    k_MOST_PASSED := He.int_ok X G (c.x.t.d.fact 31 (f := .int "MOST_PASSED" 60) rfl)
    k__LETTERS := He.str_ok X G (c.x.t.d.fact 32 (f := .str "_LETTERS" "abcdefghijklmnopqrstuvwxyz") rfl)
    k__LONGEST_NAME := He.int_ok X G (c.x.t.d.fact 33 (f := .int "_LONGEST_NAME" 8) rfl)
    k__DIGITS := He.str_ok X G (c.x.t.d.fact 34 (f := .str "_DIGITS" "0123456789") rfl)
    c_DiskFile := (by rw [a_DiskFile]; exact He.cls_ok (c.x.t.d.fact 78 (f := .cls "DiskFile") rfl))
    n_DiskFile_text := (by rw [a_DiskFile]; exact He.noat_ok (c.x.t.d.fact 80 (f := .noat "DiskFile" "text") rfl))
    n_DiskFile_firm_count := (by rw [a_DiskFile]; exact He.noat_ok (c.x.t.d.fact 81 (f := .noat "DiskFile" "firm_count") rfl))
    c_Disk := (by rw [a_Disk]; exact He.cls_ok (c.x.t.d.fact 79 (f := .cls "Disk") rfl))
    x_InvalidNumber := exI_of (SxO.NewF.of F.excBase_IndexError) F.store_IndexError SxO.fld_given m_InvalidNumber b1 I_InvalidNumber
    k__MOST_POWER := He.int_ok X G (c.x.t.d.fact 35 (f := .int "_MOST_POWER" 1000000) rfl)
    n_Disk__power := (by rw [a_Disk]; exact He.noat_ok (c.x.t.d.fact 82 (f := .noat "Disk" "_power") rfl))
    n_Disk__steps := (by rw [a_Disk]; exact He.noat_ok (c.x.t.d.fact 83 (f := .noat "Disk" "_steps") rfl))
    n_Disk__tables := (by rw [a_Disk]; exact He.noat_ok (c.x.t.d.fact 84 (f := .noat "Disk" "_tables") rfl))
    x_UnknownName := exI_of F.new_KeyError F.store_KeyError SxO.fld_asked m_UnknownName b2 I_UnknownName
    x_PowerLost := exI_of (SxO.NewF.of F.excBase_RuntimeError) F.store_RuntimeError SxO.fld_taken m_PowerLost b3 I_PowerLost
    x_InvalidName := exI_of (SxO.NewF.of F.excBase_ValueError) F.store_ValueError SxO.fld_message m_InvalidName b4 I_InvalidName
    x_InvalidOperation := exI_of (SxO.NewF.of F.excBase_ValueError) F.store_ValueError SxO.fld_message m_InvalidOperation b5 I_InvalidOperation
    x_TooMany := exI_of (SxO.NewF.of F.excBase_OverflowError) F.store_OverflowError SxO.fld_limit m_TooMany b6 I_TooMany
    k_MAX_TEXT := He.int_ok X G (c.x.t.d.fact 36 (f := .int "MAX_TEXT" 200000) rfl)
    k_MAX_FILES := He.int_ok X G (c.x.t.d.fact 37 (f := .int "MAX_FILES" 8) rfl) }
end K5
set_option Elab.async false
set_option linter.all false
set_option maxRecDepth 100000
set_option maxHeartbeats 1000000
namespace Sm
open PySem PySem.Spec PyProof.Rows L2 LamX
section
variable {P : Program} {w : World} {K : PySem.W.Frag} {T : List (Addr × Str)} {mg mb : Str → Option Value} {k : Nat} {fa a : Addr} {nm x : Str} {S : SpecF} {s₁ : Shared} {vs : List Value} {ns : List Int}
theorem law_gd {cs : List (Addr × Addr)} (KX : K.In s₁.heap) (hns : s₁.heap.Ns mainGlobals mg) (hb : s₁.heap.Ns builtinsNs mb)
    (hbb : ∀ x : Str, x ≠ "__name__" → mb x = bootBuiltins x) (hlim : s₁.heap.NoLimit) (hg : s₁.gens = #[]) (Z : AtEnd K T s₁.heap mg cs)
    (ha : s₁.heap.get? a = some { cls := .type "list", data := .seq vs.toArray }) (hi : IntsAre vs ns)
    (hl : ns.length ≤ sizeLine) (hr : Room k callerA)
    (hm : mg nm = some (.ref fa))
    (F : ∀ base : Heap, K.In base → base.Ns mainGlobals mg → (∀ p ∈ cs, TabB base mg p.1 p.2) → Gd P w K T mg base true k nm [x] [] S)
    (hS : S [.lst (ns.map .int)] [] (fun v _ => v = .bl true) fun _ _ => False) :
    codeAny (model P w) callerA (.call (.ref fa) ⟨[.ref a], []⟩) (fun r s' => r = .ok (.ret (.bool true)) ∧ OldK s₁.heap s'.heap ∧ s'.os = s₁.os ∧ AllBare s'.gens) s₁ := by
  have rv := vals_ints hi
  have tbs : ∀ b ∈ cs.map (·.2), s₁.heap.get? b = some { cls := .none, data := .fields #[] } := by
    intro b hb
    obtain ⟨p, hp, rfl⟩ := List.mem_map.mp hb
    exact Z.tab p hp
  have na : a ∉ cs.map (·.2) := by
    intro z
    have q := tbs a z
    rw [ha] at q
    cases q
  let H : Hp := Hst K (cs.map (·.2)) a { cls := .type "list", data := .seq vs.toArray } (ns.map V.int)
  have Htb : ∀ b, b ∈ cs.map (·.2) → H b = some (.tbl #[]) := fun b hb => if_pos hb
  have Ha : H a = if (K.lookup a).isNone then some (.frz { cls := .type "list", data := .seq vs.toArray } (.lst (ns.map V.int))) else none := by
    show (if a ∈ cs.map (·.2) then _ else _) = _
    rw [if_neg na, if_pos rfl]
  have Hno : ∀ b, b ∉ cs.map (·.2) → b ≠ a → H b = none := by
    intro b h1 h2
    show (if b ∈ cs.map (·.2) then _ else _) = _
    rw [if_neg h1, if_neg h2]
  have hok : HOk P w H s₁.heap := by
    intro b u hu
    by_cases h1 : b ∈ cs.map (·.2)
    · rw [Htb b h1] at hu
      cases hu
      exact tbs b h1
    · by_cases h2 : b = a
      · subst h2
        rw [Ha] at hu
        split at hu
        · cases hu
          exact ⟨ha, by rw [List.length_map]; exact hl, vs, _, rv, ha⟩
        · cases hu
      · rw [Hno b h1 h2] at hu
        cases hu
  have keepK : ∀ b o, K.lookup b = some o → H b = none := by
    intro b o e
    by_cases h1 : b ∈ cs.map (·.2)
    · obtain ⟨p, hp, rfl⟩ := List.mem_map.mp h1
      rw [Z.out p hp] at e
      cases e
    · by_cases h2 : b = a
      · subst h2
        rw [Ha, e]
        rfl
      · exact Hno b h1 h2
  have hid : ∀ {b o}, s₁.heap.get? b = some o → (∀ us n, o.data ≠ .seq us n) → o.data ≠ .fields #[] → (hidT s₁.heap H).get? b = some o := by
    intro b o e h1 h2
    refine hidT_get e ?_
    by_cases h3 : b ∈ cs.map (·.2)
    · rw [tbs b h3] at e
      cases e
      exact absurd rfl h2
    · by_cases h4 : b = a
      · subst h4
        rw [ha] at e
        cases e
        exact absurd rfl (h1 _ _)
      · exact Hno b h3 h4
  have nsH : ∀ {b : Addr} {m : Str → Option Value}, s₁.heap.Ns b m → (hidT s₁.heap H).Ns b m := by
    rintro b m ⟨o, es, ep, e, d, r⟩
    exact ⟨o, es, ep, hid e (by rw [d]; nofun) (by rw [d]; nofun), d, r⟩
  have KH : K.In (hidT s₁.heap H) := fun b o e => hidT_get (KX b o e) (keepK b o e)
  have TB : ∀ p ∈ cs, TabB (hidT s₁.heap H) mg p.1 p.2 := by
    intro p hp
    have hp2 := Z.tab p hp
    refine ⟨?_, ?_, ?_⟩
    · obtain ⟨o, us, f1, t1, f2, t2, i1, tx, tt, e1, r1, r2, r3, rest⟩ := Z.hd p hp
      refine ⟨o, us, f1, t1, f2, t2, i1, tx, tt, hid e1 (by rw [r2]; nofun) ?_, r1, r2, r3, rest⟩
      rw [r2]
      intro z
      cases z
      simp at r3
    · obtain ⟨m, ob, b1, b2, b3, b4, b5, b6⟩ := Z.bm
      refine ⟨m, ob, b1, b2, ?_, ?_, hid b3 (by rw [b6]; nofun) (by rw [b6]; nofun), b4, b5, b6⟩
      · rintro rfl
        obtain ⟨o, es, ep, e, d, _⟩ := hns
        rw [b3] at e
        cases e
        rw [b6] at d
        cases d
      · rintro rfl
        rw [hp2] at b3
        cases b3
        cases b6
    · intro z
      obtain ⟨o, es, ep, e, d, _⟩ := hns
      rw [z, hp2] at e
      cases e
      cases d
  have hM : L2.Mod K mg (hidT s₁.heap H) := ⟨KH, nsH hns, ⟨mb, nsH hb, hbb⟩, by
    obtain ⟨mc, h1, h2⟩ := hlim
    exact ⟨mc, nsH h1, h2⟩⟩
  have e0 : Env0 P w K mg (hidT s₁.heap H) callerA [] s₁ H :=
    ⟨rfl, hM, fun b o e => of_hidT e, Nat.le_of_eq (hidT_size _ _), trivial, fun b hb => (List.not_mem_nil hb).elim, hok, .of_eq hg⟩
  have rel : Rel K T [] [] H := ⟨rfl, .nil, fun n b o h => by simp at h, fun q hq => TabS.nil (Htb _ (Z.sub q hq))⟩
  have hls : LsR K [] H a (ns.map V.int) := by
    cases hk : K.lookup a with
    | some o =>
      have e := KX a o hk
      rw [ha] at e
      cases e
      exact .inr ⟨_, vs.toArray, _, hk, rfl, rfl, rfl, by rw [List.size_toArray, hi.length]; exact hl, by simpa using rv⟩
    | none =>
      refine .inl ⟨.inr ⟨{ cls := .type "list", data := .seq vs.toArray }, ?_⟩, List.not_mem_nil⟩
      rw [Ha, hk]
      rfl
  have sp : spOf K T S [.ref a] H (fun v _ => v = .bl true) fun _ _ _ => False :=
    ⟨_, [], [], _, _, .cons (.lst hls (rvs_ints ns)) .nil, rel, hS, fun v st' hv y m' H' _ _ ry => by subst hv; cases ry; rfl, fun _ _ p => p.elim⟩
  obtain ⟨f, fd, ds, dvs, g1, _, g3, g4, g5, FG⟩ := (F _ KH (nsH hns) TB).ex
  rw [hm] at g1
  cases g1
  have dv0 : dvs = [] := by
    cases g5 [] H
    rfl
  subst dv0
  have ds0 : ds = [] := by
    cases g4
    rfl
  subst ds0
  have hbd : BindsTo s₁ fd ⟨[.ref a], []⟩ ([x].zip [.ref a]) := g3 s₁ [.ref a] KX rfl
  refine codeAny_mono (FG.run callerA [] s₁ H ⟨[.ref a], []⟩ [.ref a] [.ref a] _ _ hr (fun _ => rfl) e0 hbd (.cons rfl .nil) sp) ?_
  intro r s' hrs
  cases r with
  | error e =>
    obtain ⟨_, _, _, _, _, _, _, _, _, _, _, _, bad⟩ := hrs
    exact bad.elim
  | ok fl =>
    cases fl with
    | next => exact False.elim hrs
    | brk => exact False.elim hrs
    | cont => exact False.elim hrs
    | ret u =>
      obtain ⟨v, H', os, bare, un, hok', rr, q⟩ := hrs
      have q' : v = .bl true := q
      subst q'
      obtain rfl : u = Value.bool true := rr
      have same : ∀ b o, b ∉ cs.map (·.2) → s₁.heap.get? b = some o → s'.heap.get? b = some o := by
        intro b o nb e
        by_cases h2 : b = a
        · subst h2
          have hA := Ha
          split at hA
          · have z2 := un.frzs b _ _ hA
            obtain ⟨g1, _⟩ := hok b _ hA
            obtain ⟨g2, _⟩ := hok' b _ z2
            rw [e] at g1
            cases g1
            exact g2
          · exact un.keep b o e hA (fun z => (List.not_mem_nil z).elim) (by simp)
        · exact un.keep b o e (Hno b nb h2) (fun z => (List.not_mem_nil z).elim) (by simp)
      have more : ∀ p ∈ cs, ∃ m : Array Value, s'.heap.get? p.2 = some { cls := .none, data := .fields m } := by
        intro p hp
        obtain ⟨m, z⟩ := un.tbls p.2 #[] (Htb _ (List.mem_map.mpr ⟨p, hp, rfl⟩))
        exact ⟨_, hok' p.2 _ z⟩
      refine ⟨rfl, ⟨fun b o e => ?_, fun b o e => ?_⟩, os, bare⟩
      · by_cases h1 : b ∈ cs.map (·.2)
        · obtain ⟨p, hp, rfl⟩ := List.mem_map.mp h1
          obtain ⟨m, hm⟩ := more p hp
          rw [Z.tab p hp] at e
          cases e
          exact .inr (.inl ⟨((Z.hd p hp).tab (Z.tab p hp)).isCodeTable, rfl, #[], m, rfl, by rw [Array.empty_append]; exact hm⟩)
        · exact .inl (same b o h1 e)
      · by_cases h1 : b ∈ cs.map (·.2)
        · obtain ⟨p, hp, rfl⟩ := List.mem_map.mp h1
          obtain ⟨m, hm⟩ := more p hp
          exact ⟨_, hm⟩
        · exact ⟨o, same b o h1 e⟩
end
end Sm
set_option Elab.async false
set_option linter.all false
set_option maxRecDepth 100000
set_option maxHeartbeats 0
open PySem PySem.W PySem.Calls PyProof.Rows
theorem PySem.Challenge.cw_sumstead_k59_whole_disks_behind_losses_o_holds : PySem.Challenge.rw_sumstead_k59_whole_disks_behind_losses_o.Holds := by
  w_on; o_law
  o_head K5.hk
  case hw => w_witness2
  case hc =>
    refine Att.attach_callB (l := PySem.Challenge.rw_sumstead_k59_whole_disks_behind_losses_o) rfl (by kernel_rfl) fun w s₀ s₁ mg mb fa o pm cd doc a vs ns G Y ho hd hcd hmg hobj hints hlen hbits hg => ?_
    obtain ⟨K, KX, c⟩ := Y
    have hmg2 : mg ("law" : PySem.Str) = some (.ref fa) := by
      have e : (HandSHeadRun.topDef (OpenLaw.row PySem.Challenge.rw_sumstead_k59_whole_disks_behind_losses_o).prog 45).name = ("law" : PySem.Str) := by kernel_rfl
      rw [← e]
      exact hmg
    have hsub : ∀ q ∈ K5.tbs K, q.1 ∈ (K5.tf.map (He.cT K)).map (·.2) := by
      intro q hq
      simp only [K5.tbs, List.mem_cons, List.not_mem_nil, or_false] at hq
      rcases hq with rfl | rfl
      · exact (.head _)
      · exact (.tail _ (.head _))
    have hmem : ∀ (R : Addr × Addr → Prop), (∀ p ∈ K5.tf, R (He.cT K p)) → ∀ p ∈ K5.tf.map (He.cT K), R p := by
      intro R h p hp
      obtain ⟨q, hq, rfl⟩ := List.mem_map.mp hp
      exact h q hq
    refine Sm.law_gd (T := K5.tbs K) (cs := K5.tf.map (He.cT K)) (k := 11) (nm := "law") (x := "_law_script") (S := K5.S_law mg) KX G.T.g G.T.b G.T.builtins G.T.nolimit hg
      ⟨hmem _ c.x.empty, hmem _ c.x.out, hmem _ fun p hp => PySem.W.codeHd_of_K KX (c.x.hd p hp), G.T.bmain, hsub⟩ hobj hints (Nat.le_trans hlen (by decide)) ⟨rfl, by decide, by decide⟩ hmg2 (fun base _ _ TB => (K5.law_ok (K5.facts KX G.T.g c TB)).up) ⟨ns, rfl, hbits, Nat.le_trans hlen (by decide), fun _ => rfl⟩
