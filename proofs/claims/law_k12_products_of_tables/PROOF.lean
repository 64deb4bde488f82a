import PyProof.Rows.All
import Wide.All
import OpenK.AllK
import Wide.FinOn
import HandS.ForMost
import HandS.IsInst
import HandS.Zip
import HandS.Walk
import HandS.Deep
import HandS.Flow
import HandS.Style
import HandS.Star
import HandS.Evl
import PySem.Challenge.RW_twinbegun_k12_products_of_tables
set_option Elab.async false
set_option linter.all false
set_option maxRecDepth 100000
set_option maxHeartbeats 4000000
/-! Data in place of heaps: a def's run told by what its values hold. -/
namespace DL
open PySem PySem.Spec PyProof.Rows L2

/-- what a value holds -/
inductive Dt where
  | non | bl (k : Bool) | int (i : Int) | str (x : Str)
  | lst (xs : List Dt) | tup (xs : List Dt)
  | ins (C : Addr) (fs : List (Str × Dt))
  | dT (kvs : List (List Key × Dt))
  | bag

mutual
inductive Rep (b : Option Addr) (F : Hp) : V → Dt → Prop
  | non : Rep b F .non .non
  | bl (k : Bool) : Rep b F (.bl k) (.bl k)
  | int (i : Int) : Rep b F (.int i) (.int i)
  | str (x : Str) : Rep b F (.str x) (.str x)
  | lst {a : Addr} {vs : List V} {xs : List Dt} : F a = some (.lst vs) → RepL b F vs xs → Rep b F (.ref a) (.lst xs)
  | tup {a : Addr} {vs : List V} {xs : List Dt} : F a = some (.tup vs) → RepL b F vs xs → Rep b F (.ref a) (.tup xs)
  | ins {a C dx : Addr} {vs : List (Str × V)} {fs : List (Str × Dt)} : F a = some (.ins C dx vs) → RepF b F vs fs → Rep b F (.ref a) (.ins C fs)
  | dT {a : Addr} {vs : List (List Key × V)} {kvs : List (List Key × Dt)} : F a = some (.dT vs) → RepD b F vs kvs → Rep b F (.ref a) (.dT kvs)
  | bag {a : Addr} : b = some a → Rep b F (.ref a) .bag
inductive RepL (b : Option Addr) (F : Hp) : List V → List Dt → Prop
  | nil : RepL b F [] []
  | cons {v : V} {vs : List V} {d : Dt} {ds : List Dt} : Rep b F v d → RepL b F vs ds → RepL b F (v :: vs) (d :: ds)
inductive RepF (b : Option Addr) (F : Hp) : List (Str × V) → List (Str × Dt) → Prop
  | nil : RepF b F [] []
  | cons {n : Str} {v : V} {vs : List (Str × V)} {d : Dt} {ds : List (Str × Dt)} : Rep b F v d → RepF b F vs ds → RepF b F ((n, v) :: vs) ((n, d) :: ds)
inductive RepD (b : Option Addr) (F : Hp) : List (List Key × V) → List (List Key × Dt) → Prop
  | nil : RepD b F [] []
  | cons {n : List Key} {v : V} {vs : List (List Key × V)} {d : Dt} {ds : List (List Key × Dt)} : Rep b F v d → RepD b F vs ds → RepD b F ((n, v) :: vs) ((n, d) :: ds)
end
def Sub (F F' : Hp) : Prop := ∀ a o, F a = some o → F' a = some o
theorem Sub.refl (F : Hp) : Sub F F := fun _ _ h => h
theorem Sub.trans {F F' F'' : Hp} (a : Sub F F') (c : Sub F' F'') : Sub F F'' := fun x o h => c x o (a x o h)
section
variable {b : Option Addr} {F F' : Hp}
mutual
theorem Rep.mono (s : Sub F F') : ∀ {d : Dt} {v : V}, Rep b F v d → Rep b F' v d
  | .non, _, h => by cases h; exact .non
  | .bl _, _, h => by cases h; exact .bl _
  | .int _, _, h => by cases h; exact .int _
  | .str _, _, h => by cases h; exact .str _
  | .lst xs, _, h => by
    cases h with
    | lst e r => exact .lst (s _ _ e) (RepL.mono s r)
  | .tup xs, _, h => by
    cases h with
    | tup e r => exact .tup (s _ _ e) (RepL.mono s r)
  | .ins C fs, _, h => by
    cases h with
    | ins e r => exact .ins (s _ _ e) (RepF.mono s r)
  | .dT kvs, _, h => by
    cases h with
    | dT e r => exact .dT (s _ _ e) (RepD.mono s r)
  | .bag, _, h => by
    cases h with
    | bag e => exact .bag e
theorem RepL.mono (s : Sub F F') : ∀ {ds : List Dt} {vs : List V}, RepL b F vs ds → RepL b F' vs ds
  | [], _, h => by cases h; exact .nil
  | d :: ds, _, h => by
    cases h with
    | cons r t => exact .cons (Rep.mono s r) (RepL.mono s t)
theorem RepF.mono (s : Sub F F') : ∀ {ds : List (Str × Dt)} {vs : List (Str × V)}, RepF b F vs ds → RepF b F' vs ds
  | [], _, h => by cases h; exact .nil
  | (n, d) :: ds, _, h => by
    cases h with
    | cons r t => exact .cons (Rep.mono s r) (RepF.mono s t)
theorem RepD.mono (s : Sub F F') : ∀ {ds : List (List Key × Dt)} {vs : List (List Key × V)}, RepD b F vs ds → RepD b F' vs ds
  | [], _, h => by cases h; exact .nil
  | (n, d) :: ds, _, h => by
    cases h with
    | cons r t => exact .cons (Rep.mono s r) (RepD.mono s t)
end
theorem RepL.length : ∀ {ds : List Dt} {vs : List V}, RepL b F vs ds → vs.length = ds.length
  | [], _, h => by cases h; rfl
  | d :: ds, _, h => by
    cases h with
    | cons r t => exact congrArg (· + 1) (RepL.length t)
theorem RepL.get : ∀ {ds : List Dt} {vs : List V} {i : Nat} {v : V}, RepL b F vs ds → vs[i]? = some v → ∃ d, ds[i]? = some d ∧ Rep b F v d
  | _, _, _, _, .nil, e => by simp at e
  | _, _, 0, _, .cons r _, e => by simp at e; subst e; exact ⟨_, rfl, r⟩
  | _, _, i + 1, v, .cons _ t, e => by
    obtain ⟨d, h1, h2⟩ := RepL.get (i := i) (v := v) t (by simpa using e)
    exact ⟨d, by simpa using h1, h2⟩
theorem RepL.get' : ∀ {ds : List Dt} {vs : List V} {i : Nat} {d : Dt}, RepL b F vs ds → ds[i]? = some d → ∃ v, vs[i]? = some v ∧ Rep b F v d
  | _, _, _, _, .nil, e => by simp at e
  | _, _, 0, _, .cons r _, e => by simp at e; subst e; exact ⟨_, rfl, r⟩
  | _, _, i + 1, v, .cons _ t, e => by
    obtain ⟨d, h1, h2⟩ := RepL.get' (i := i) t (by simpa using e)
    exact ⟨d, by simpa using h1, h2⟩
theorem RepL.append : ∀ {xs ys : List Dt} {vs ws : List V}, RepL b F vs xs → RepL b F ws ys → RepL b F (vs ++ ws) (xs ++ ys)
  | _, _, _, _, .nil, s => s
  | _, _, _, _, .cons r t, s => .cons r (RepL.append t s)
theorem RepL.take : ∀ {xs : List Dt} {vs : List V} (n : Nat), RepL b F vs xs → RepL b F (vs.take n) (xs.take n)
  | _, _, 0, _ => .nil
  | _, _, _ + 1, .nil => .nil
  | _, _, n + 1, .cons r t => .cons r (RepL.take n t)
theorem RepL.drop : ∀ {xs : List Dt} {vs : List V} (n : Nat), RepL b F vs xs → RepL b F (vs.drop n) (xs.drop n)
  | _, _, 0, r => r
  | _, _, _ + 1, .nil => .nil
  | _, _, n + 1, .cons _ t => RepL.drop n t
theorem RepF.look : ∀ {ds : List (Str × Dt)} {vs : List (Str × V)} {f : Str} {d : Dt}, RepF b F vs ds → ds.lookup f = some d → ∃ v, vs.lookup f = some v ∧ Rep b F v d
  | _, _, _, _, .nil, e => by simp at e
  | _, _, f, d, .cons (n := n) r t, e => by
    rw [List.lookup_cons] at e ⊢
    cases q : f == n with
    | true =>
      rw [q] at e
      exact ⟨_, rfl, by cases e; exact r⟩
    | false =>
      rw [q] at e
      exact RepF.look t e
theorem RepF.no : ∀ {ds : List (Str × Dt)} {vs : List (Str × V)} {f : Str}, RepF b F vs ds → ds.lookup f = none → vs.lookup f = none
  | _, _, _, .nil, e => rfl
  | _, _, f, .cons (n := n) r t, e => by
    rw [List.lookup_cons] at e ⊢
    cases q : f == n with
    | true =>
      rw [q] at e
      cases e
    | false =>
      rw [q] at e
      exact RepF.no t e
end
/-! ### the bag, growth -/
def BagOk (F H : Hp) : Option Addr → Prop
  | none => True
  | some a => F a = none ∧ ∃ (c : Addr) (cs : List Int) (i : Nat) (v m k : Int), F c = some (.lst (cs.map V.int)) ∧ H a = some (.lst [.ref c, .int i, .int v, .int m, .int k]) ∧ 0 ≤ m ∧ m < 2147483563 ∧ cs.length ≤ 63
def Ok (b : Option Addr) (F H : Hp) : Prop := Sub F H ∧ BagOk F H b
structure Ext (b : Option Addr) (F H F' H' : Hp) : Prop where
  keep : ∀ a o, b ≠ some a → H a = some o → H' a = some o
  grow : Sub F F'
  sub : Sub F' H'
  new : ∀ a o, H a = some o → F' a = F a
  bag : BagOk F' H' b
  cell : ∀ a c r, b = some a → H a = some (.lst (.ref c :: r)) → ∃ c' r', H' a = some (.lst (.ref c' :: r')) ∧ (c' = c ∨ H c' = none)
section
variable {b : Option Addr} {F H F' H' F'' H'' : Hp} {p : Addr} {o : HO}
theorem Ext.refl (k : Ok b F H) : Ext b F H F H := ⟨fun _ _ _ h => h, Sub.refl F, k.1, fun _ _ _ => rfl, k.2, fun _ c r _ h => ⟨c, r, h, .inl rfl⟩⟩
theorem Ext.ok (x : Ext b F H F' H') : Ok b F' H' := ⟨x.sub, x.bag⟩
theorem Ext.trans (x : Ext b F H F' H') (y : Ext b F' H' F'' H'') : Ext b F H F'' H'' where
  keep := fun a o n h => y.keep a o n (x.keep a o n h)
  grow := x.grow.trans y.grow
  sub := y.sub
  new := fun a o h => by
    by_cases n : b = some a
    · have q := x.bag
      rw [n] at q
      obtain ⟨q0, _, _, _, _, _, _, _, q1, _⟩ := q
      rw [y.new a _ q1, x.new a o h]
    · rw [y.new a o (x.keep a o n h), x.new a o h]
  bag := y.bag
  cell := fun a c r e h => by
    obtain ⟨c1, r1, h1, q1⟩ := x.cell a c r e h
    obtain ⟨c2, r2, h2, q2⟩ := y.cell a c1 r1 e h1
    refine ⟨c2, r2, h2, ?_⟩
    rcases q2 with q2 | q2
    · rw [q2]; exact q1
    · right
      cases z : H c2 with
      | none => rfl
      | some o =>
        by_cases n : b = some c2
        · have q := x.bag
          rw [n] at q
          obtain ⟨_, _, _, _, _, _, _, _, w, _⟩ := q
          rw [q2] at w; cases w
        · rw [x.keep c2 o n z] at q2; cases q2
theorem Ok.bagAt (k : Ok b F H) {a : Addr} (e : b = some a) : ∃ o, H a = some o := by
  obtain ⟨_, q⟩ := k
  rw [e] at q
  obtain ⟨_, _, _, _, _, _, _, _, q1, _⟩ := q
  exact ⟨_, q1⟩
theorem Ok.bagF (k : Ok b F H) {a : Addr} (e : b = some a) : F a = none := by
  obtain ⟨_, q⟩ := k
  rw [e] at q
  exact q.1
/-- BagOk looks at the bag and at its cells alone -/
theorem BagOk.to (k : Ok b F H) (g : Sub F F') (n : ∀ a, b = some a → F' a = none) (h : ∀ a o, b = some a → H a = some o → H' a = some o) : BagOk F' H' b := by
  obtain ⟨_, q⟩ := k
  cases b with
  | none => trivial
  | some a =>
    obtain ⟨_, c, cs, i, v, m, z, q1, q2, q3⟩ := q
    exact ⟨n a rfl, c, cs, i, v, m, z, g _ _ q1, h a _ rfl q2, q3⟩
/-- a new object that stays out of F -/
theorem Ext.laid (k : Ok b F H) (hp : H p = none) : Ext b F H F (upd H p o) where
  keep := fun a u _ h => by rw [upd_ne (ne_of_none h hp)]; exact h
  grow := Sub.refl F
  sub := fun a u h => by rw [upd_ne (ne_of_none (k.1 a u h) hp)]; exact k.1 a u h
  new := fun _ _ _ => rfl
  bag := BagOk.to k (Sub.refl F) (fun a e => k.bagF e) fun a u e h => by rw [upd_ne (ne_of_none h hp)]; exact h
  cell := fun a c r e h => ⟨c, r, by rw [upd_ne (ne_of_none h hp)]; exact h, .inl rfl⟩
/-- a new object, taken into F -/
theorem Ext.push (k : Ok b F H) (hp : H p = none) : Ext b F H (upd F p o) (upd H p o) where
  keep := fun a u _ h => by rw [upd_ne (ne_of_none h hp)]; exact h
  grow := fun a u h => by rw [upd_ne (ne_of_none (k.1 a u h) hp)]; exact h
  sub := fun a u h => by
    by_cases e : a = p
    · subst e; rw [upd_same] at h ⊢; exact h
    · rw [upd_ne e] at h ⊢; exact k.1 a u h
  new := fun a u h => by rw [upd_ne (ne_of_none h hp)]
  bag := BagOk.to k (fun a u h => by rw [upd_ne (ne_of_none (k.1 a u h) hp)]; exact h) (fun a e => by
    obtain ⟨u, q⟩ := k.bagAt e
    rw [upd_ne (ne_of_none q hp)]
    exact k.bagF e) fun a u e h => by rw [upd_ne (ne_of_none h hp)]; exact h
  cell := fun a c r e h => ⟨c, r, by rw [upd_ne (ne_of_none h hp)]; exact h, .inl rfl⟩
/-- an object that stands in H', new since H, not in F', is taken into F' -/
theorem Ext.take (x : Ext b F H F' H') (hp : H p = none) (hn : b ≠ some p) (h : H' p = some o) : Ext b F H (upd F' p o) H' where
  keep := x.keep
  grow := fun a u q => by
    by_cases e : a = p
    · subst e
      have z := x.sub _ _ (x.grow _ _ q)
      rw [h] at z
      rw [upd_same]
      exact z
    · rw [upd_ne e]; exact x.grow a u q
  sub := fun a u q => by
    by_cases e : a = p
    · subst e; rw [upd_same] at q; rw [h]; exact q
    · rw [upd_ne e] at q; exact x.sub a u q
  new := fun a u q => by rw [upd_ne (ne_of_none q hp)]; exact x.new a u q
  bag := BagOk.to x.ok (fun a u q => by
    by_cases e : a = p
    · subst e
      have z := x.sub _ _ q
      rw [h] at z
      rw [upd_same]
      exact z
    · rw [upd_ne e]; exact q) (fun a e => by rw [upd_ne (fun z => hn (e.trans (congrArg some z)))]; exact x.ok.bagF e) fun a u _ q => q
  cell := x.cell
/-- an object that H does not know, and that F' has not, is written -/
theorem Ext.wr (x : Ext b F H F' H') (hp : H p = none) (hf : F' p = none) (hn : b ≠ some p) : Ext b F H F' (upd H' p o) where
  keep := fun a u n h => by rw [upd_ne (ne_of_none h hp)]; exact x.keep a u n h
  grow := x.grow
  sub := fun a u h => by rw [upd_ne (ne_of_none h hf)]; exact x.sub a u h
  new := x.new
  bag := BagOk.to x.ok (Sub.refl _) (fun a e => x.ok.bagF e) fun a u e h => by rw [upd_ne (fun z => hn (e.trans (congrArg some z)))]; exact h
  cell := fun a c r e h => by
    obtain ⟨c', r', h', q⟩ := x.cell a c r e h
    exact ⟨c', r', by rw [upd_ne (fun z => hn (e.trans (congrArg some z)))]; exact h', q⟩
theorem Ext.back (x : Ext b F H F' H') (k : Ok b F H) (h : H' p = none) : H p = none := by
  cases q : H p with
  | none => rfl
  | some u =>
    by_cases n : b = some p
    · obtain ⟨w, z⟩ := x.ok.bagAt n
      rw [h] at z; cases z
    · rw [x.keep p u n q] at h; cases h
theorem Ok.nb (k : Ok b F H) (h : H p = none) : b ≠ some p := fun e => by
  obtain ⟨u, q⟩ := k.bagAt e
  rw [h] at q; cases q
theorem Ok.fF (k : Ok b F H) (h : H p = none) : F p = none := by
  cases q : F p with
  | none => rfl
  | some u => rw [k.1 p u q] at h; cases h
theorem Ext.mono (x : Ext b F H F' H') {v : V} {d : Dt} (r : Rep b F v d) : Rep b F' v d := r.mono x.grow
end
end DL

namespace DL
open PySem PySem.Spec PyProof.Rows L2
/-- a slot: nothing known, a value that holds d, a list that is this def's alone (it may still be changed) -/
inductive Sl where
  | un | val (d : Dt) | own (l : Addr) (xs : List Dt)
abbrev Gm := List Sl
@[reducible] def gat : Gm → Nat → Sl
  | [], _ => .un
  | s :: _, 0 => s
  | _ :: r, n + 1 => gat r n
@[reducible] def gset : Gm → Nat → Sl → Gm
  | [], _, _ => []
  | _ :: r, 0, s => s :: r
  | z :: r, n + 1, s => z :: gset r n s
@[reducible] def gwipe (γ : Gm) : List Nat → Gm
  | [] => γ
  | i :: r => gset (gwipe γ r) i .un
theorem gset_len : ∀ (γ : Gm) (i : Nat) (s : Sl), (gset γ i s).length = γ.length
  | [], _, _ => rfl
  | _ :: _, 0, _ => rfl
  | _ :: r, n + 1, s => congrArg (· + 1) (gset_len r n s)
theorem gwipe_len (γ : Gm) : ∀ js, (gwipe γ js).length = γ.length
  | [] => rfl
  | i :: r => (gset_len _ i _).trans (gwipe_len γ r)
theorem gat_set_ne : ∀ (γ : Gm) {i j : Nat} (s : Sl), j ≠ i → gat (gset γ i s) j = gat γ j
  | [], _, _, _, _ => rfl
  | _ :: _, 0, 0, _, h => (h rfl).elim
  | _ :: _, 0, j + 1, _, _ => rfl
  | _ :: _, i + 1, 0, _, _ => rfl
  | _ :: r, i + 1, j + 1, s, h => gat_set_ne r s fun e => h (congrArg (· + 1) e)
theorem gat_set : ∀ (γ : Gm) {i : Nat} (s : Sl), gat (gset γ i s) i = s ∨ (gat (gset γ i s) i = .un ∧ γ.length ≤ i)
  | [], _, _ => .inr ⟨rfl, Nat.zero_le _⟩
  | _ :: _, 0, _ => .inl rfl
  | _ :: r, i + 1, s => by
    rcases gat_set r (i := i) s with h | ⟨h, k⟩
    · exact .inl h
    · exact .inr ⟨h, Nat.succ_le_succ k⟩
theorem gat_wipe (γ : Gm) {j : Nat} : ∀ {js : List Nat}, j ∉ js → gat (gwipe γ js) j = gat γ j
  | [], _ => rfl
  | i :: r, h => by
    show gat (gset (gwipe γ r) i .un) j = gat γ j
    rw [gat_set_ne _ _ (fun e => h (by rw [e]; exact List.mem_cons_self)), gat_wipe γ fun q => h (List.mem_cons_of_mem _ q)]
theorem gat_wiped (γ : Gm) {j : Nat} : ∀ {js : List Nat}, j ∈ js → gat (gwipe γ js) j = .un
  | i :: r, h => by
    show gat (gset (gwipe γ r) i .un) j = .un
    by_cases e : j = i
    · subst e
      rcases gat_set (gwipe γ r) (i := j) .un with q | ⟨q, _⟩ <;> exact q
    · rw [gat_set_ne _ _ e]
      rcases List.mem_cons.mp h with q | q
      · exact (e q).elim
      · exact gat_wiped γ q

def SlOk (b : Option Addr) (H0 F H : Hp) (w : Option (Option V)) : Sl → Prop
  | .un => True
  | .val d => ∃ v, w = some (some v) ∧ Rep b F v d
  | .own l xs => ∃ vs, w = some (some (.ref l)) ∧ H l = some (.lst vs) ∧ RepL b F vs xs ∧ F l = none ∧ H0 l = none ∧ b ≠ some l
structure Nv (b : Option Addr) (Fm F0 H0 F H : Hp) (σ : L2.St) (γ : Gm) : Prop where
  ok0 : Ok b F0 H0
  fm : Sub Fm F
  ext : Ext b F0 H0 F H
  len : σ.length = γ.length
  slot : ∀ i, SlOk b H0 F H σ[i]? (gat γ i)
  dis : ∀ i j l m xs ys, gat γ i = .own l xs → gat γ j = .own m ys → l = m → i = j
section
variable {b : Option Addr} {Fm F0 H0 F H F' H' : Hp} {σ : L2.St} {γ : Gm}
theorem Nv.ok (n : Nv b Fm F0 H0 F H σ γ) : Ok b F H := n.ext.ok
theorem Nv.to (n : Nv b Fm F0 H0 F H σ γ) (x : Ext b F H F' H') : Nv b Fm F0 H0 F' H' σ γ where
  ok0 := n.ok0
  fm := n.fm.trans x.grow
  ext := n.ext.trans x
  len := n.len
  slot := fun i => by
    have h := n.slot i
    cases e : gat γ i with
    | un => exact True.intro
    | val d =>
      rw [e] at h
      obtain ⟨v, h1, h2⟩ := h
      exact ⟨v, h1, x.mono h2⟩
    | own l xs =>
      rw [e] at h
      obtain ⟨vs, h1, h2, h3, h4, h5, h6⟩ := h
      exact ⟨vs, h1, x.keep _ _ h6 h2, h3.mono x.grow, by rw [x.new _ _ h2]; exact h4, h5, h6⟩
  dis := n.dis
/-- a slot is given a value -/
theorem Nv.set (n : Nv b Fm F0 H0 F H σ γ) (i : Nat) {v : V} {d : Dt} (r : Rep b F v d) : Nv b Fm F0 H0 F H (σ.set i (some v)) (gset γ i (.val d)) where
  ok0 := n.ok0
  fm := n.fm
  ext := n.ext
  len := by rw [List.length_set, gset_len]; exact n.len
  slot := fun j => by
    by_cases e : j = i
    · subst e
      rcases gat_set γ (i := j) (.val d) with q | ⟨q, _⟩
      · rw [q]
        by_cases hl : j < σ.length
        · exact ⟨v, by rw [List.getElem?_set_self hl], r⟩
        · rcases gat_set γ (i := j) .un with z | ⟨z, _⟩
          · exfalso
            have : ∀ (γ : Gm) (k : Nat), γ.length ≤ k → gat (gset γ k (.val d)) k = .un := fun γ => by
              induction γ with
              | nil => intro k _; rfl
              | cons a r ih =>
                intro k hk
                cases k with
                | zero => cases hk
                | succ k => exact ih k (Nat.le_of_succ_le_succ hk)
            rw [this γ j (by rw [← n.len]; omega)] at q
            cases q
          · exfalso
            have : ∀ (γ : Gm) (k : Nat), γ.length ≤ k → gat (gset γ k (.val d)) k = .un := fun γ => by
              induction γ with
              | nil => intro k _; rfl
              | cons a r ih =>
                intro k hk
                cases k with
                | zero => cases hk
                | succ k => exact ih k (Nat.le_of_succ_le_succ hk)
            rw [this γ j (by rw [← n.len]; omega)] at q
            cases q
      · rw [q]; exact True.intro
    · rw [gat_set_ne _ _ e, List.getElem?_set_ne (Ne.symm e)]
      exact n.slot j
  dis := fun j k l m xs ys hj hk hq => by
    have nj : j ≠ i := fun e => by
      subst e
      rcases gat_set γ (i := j) (.val d) with q | ⟨q, _⟩ <;> (rw [q] at hj; cases hj)
    have nk : k ≠ i := fun e => by
      subst e
      rcases gat_set γ (i := k) (.val d) with q | ⟨q, _⟩ <;> (rw [q] at hk; cases hk)
    rw [gat_set_ne _ _ nj] at hj
    rw [gat_set_ne _ _ nk] at hk
    exact n.dis j k l m xs ys hj hk hq
/-- a slot is given a list of its own: new since H1, where the slots stood as they do -/
theorem Nv.setOwn (n : Nv b Fm F0 H0 F H σ γ) (i : Nat) {l : Addr} {vs : List V} {xs : List Dt} (h : H l = some (.lst vs)) (r : RepL b F vs xs) (f : F l = none) (h0 : H0 l = none) (nb : b ≠ some l)
    (new : ∀ j m ys, gat γ j = .own m ys → m ≠ l) : Nv b Fm F0 H0 F H (σ.set i (some (.ref l))) (gset γ i (.own l xs)) where
  ok0 := n.ok0
  fm := n.fm
  ext := n.ext
  len := by rw [List.length_set, gset_len]; exact n.len
  slot := fun j => by
    by_cases e : j = i
    · subst e
      by_cases hl : j < σ.length
      · rcases gat_set γ (i := j) (.own l xs) with q | ⟨q, _⟩
        · rw [q]
          exact ⟨vs, by rw [List.getElem?_set_self hl], h, r, f, h0, nb⟩
        · rw [q]; exact True.intro
      · have : ∀ (γ : Gm) (k : Nat), γ.length ≤ k → gat (gset γ k (.own l xs)) k = .un := fun γ => by
          induction γ with
          | nil => intro k _; rfl
          | cons a r ih =>
            intro k hk
            cases k with
            | zero => cases hk
            | succ k => exact ih k (Nat.le_of_succ_le_succ hk)
        rw [this γ j (by rw [← n.len]; omega)]
        exact True.intro
    · rw [gat_set_ne _ _ e, List.getElem?_set_ne (Ne.symm e)]
      exact n.slot j
  dis := fun j k p m ys zs hj hk hq => by
    have at_i : ∀ m zs, gat (gset γ i (.own l xs)) i = .own m zs → m = l := fun m zs hz => by
      rcases gat_set γ (i := i) (.own l xs) with q | ⟨q, _⟩
      · rw [q] at hz; cases hz; rfl
      · rw [q] at hz; cases hz
    by_cases ej : j = i
    · by_cases ek : k = i
      · rw [ej, ek]
      · exfalso
        subst ej
        rw [gat_set_ne _ _ ek] at hk
        exact new k m zs hk (hq.symm.trans (at_i p ys hj))
    · by_cases ek : k = i
      · exfalso
        subst ek
        rw [gat_set_ne _ _ ej] at hj
        exact new j p ys hj (hq.trans (at_i m zs hk))
      · rw [gat_set_ne _ _ ej] at hj
        rw [gat_set_ne _ _ ek] at hk
        exact n.dis j k p m ys zs hj hk hq
/-- what an own slot's list is, is no longer asked for -/
theorem Nv.forget (n : Nv b Fm F0 H0 F H σ γ) {σ' : L2.St} {γ' : Gm} (hl : σ'.length = σ.length) (hg : γ'.length = γ.length) (h : ∀ i, gat γ' i = .un ∨ (gat γ' i = gat γ i ∧ σ'[i]? = σ[i]?)) : Nv b Fm F0 H0 F H σ' γ' where
  ok0 := n.ok0
  fm := n.fm
  ext := n.ext
  len := by rw [hl, hg]; exact n.len
  slot := fun i => by
    rcases h i with e | ⟨e, e'⟩
    · rw [e]; exact True.intro
    · rw [e, e']; exact n.slot i
  dis := fun j k l m xs ys hj hk hq => by
    rcases h j with e | ⟨e, e'⟩
    · rw [e] at hj; cases hj
    · rcases h k with f | ⟨f, f'⟩
      · rw [f] at hk; cases hk
      · exact n.dis j k l m xs ys (e ▸ hj) (f ▸ hk) hq
/-- an own list becomes a value like any other -/
theorem Nv.freeze (n : Nv b Fm F0 H0 F H σ γ) {i : Nat} {l : Addr} {xs : List Dt} (e : gat γ i = .own l xs) : ∃ F', Nv b Fm F0 H0 F' H σ (gset γ i (.val (.lst xs))) ∧ Sub F F' := by
  have hi := n.slot i
  rw [e] at hi
  obtain ⟨vs, h1, h2, h3, h4, h5, h6⟩ := hi
  have x : Ext b F0 H0 (upd F l (.lst vs)) H := n.ext.take h5 h6 h2
  have g : Sub F (upd F l (.lst vs)) := fun a u q => by rw [upd_ne (ne_of_none q h4)]; exact q
  refine ⟨upd F l (.lst vs), ⟨n.ok0, n.fm.trans g, x, by rw [gset_len]; exact n.len, fun j => ?_, fun j k p m ys zs hj hk hq => ?_⟩, g⟩
  · by_cases ej : j = i
    · subst ej
      rcases gat_set γ (i := j) (.val (.lst xs)) with q | ⟨q, _⟩
      · rw [q]
        exact ⟨.ref l, h1, .lst upd_same (h3.mono g)⟩
      · rw [q]; exact True.intro
    · rw [gat_set_ne _ _ ej]
      have hj := n.slot j
      cases ez : gat γ j with
      | un => exact True.intro
      | val d =>
        rw [ez] at hj
        obtain ⟨v, q1, q2⟩ := hj
        exact ⟨v, q1, q2.mono g⟩
      | own l2 ys =>
        rw [ez] at hj
        obtain ⟨vs2, q1, q2, q3, q4, q5, q6⟩ := hj
        refine ⟨vs2, q1, q2, q3.mono g, ?_, q5, q6⟩
        have nl : l2 ≠ l := fun z => ej (n.dis j i l2 l ys xs ez e z)
        rw [upd_ne nl]
        exact q4
  · have nj : j ≠ i := fun z => by
      subst z
      rcases gat_set γ (i := j) (.val (.lst xs)) with q | ⟨q, _⟩ <;> (rw [q] at hj; cases hj)
    have nk : k ≠ i := fun z => by
      subst z
      rcases gat_set γ (i := k) (.val (.lst xs)) with q | ⟨q, _⟩ <;> (rw [q] at hk; cases hk)
    rw [gat_set_ne _ _ nj] at hj
    rw [gat_set_ne _ _ nk] at hk
    exact n.dis j k p m ys zs hj hk hq
/-- an own list is changed -/
theorem Nv.wr (n : Nv b Fm F0 H0 F H σ γ) {i : Nat} {xs ys : List Dt} {l : Addr} {ws : List V} (e : gat γ i = .own l xs) (r : RepL b F ws ys) : Nv b Fm F0 H0 F (upd H l (.lst ws)) σ (gset γ i (.own l ys)) := by
  have hi := n.slot i
  rw [e] at hi
  obtain ⟨vs', h1, h2, h3, h4, h5, h6⟩ := hi
  have back : ∀ j p us, gat (gset γ i (.own l ys)) j = .own p us → ∃ us', gat γ j = .own p us' := fun j p us hj => by
    by_cases z : j = i
    · subst z
      rcases gat_set γ (i := j) (.own l ys) with q | ⟨q, _⟩
      · rw [q] at hj; cases hj; exact ⟨_, e⟩
      · rw [q] at hj; cases hj
    · rw [gat_set_ne _ _ z] at hj; exact ⟨_, hj⟩
  refine ⟨n.ok0, n.fm, n.ext.wr h5 h4 h6, by rw [gset_len]; exact n.len, fun j => ?_, fun j k p m us zs hj hk hq => ?_⟩
  · by_cases ej : j = i
    · subst ej
      rcases gat_set γ (i := j) (.own l ys) with q | ⟨q, _⟩
      · rw [q]
        exact ⟨ws, h1, upd_same, r, h4, h5, h6⟩
      · rw [q]; exact True.intro
    · rw [gat_set_ne _ _ ej]
      have hj := n.slot j
      cases ez : gat γ j with
      | un => exact True.intro
      | val d =>
        rw [ez] at hj
        exact hj
      | own l2 us =>
        rw [ez] at hj
        obtain ⟨vs2, q1, q2, q3, q4, q5, q6⟩ := hj
        have nl : l2 ≠ l := fun z => ej (n.dis j i l2 l us xs ez e z)
        exact ⟨vs2, q1, by rw [upd_ne nl]; exact q2, q3, q4, q5, q6⟩
  · obtain ⟨_, a1⟩ := back j p us hj
    obtain ⟨_, a2⟩ := back k m zs hk
    exact n.dis j k _ _ _ _ a1 a2 hq
end

/-! ### readings told by data -/
abbrev DT := Gm → (Dt → Prop) → Prop
abbrev DBt := Gm → (Bool → Prop) → Prop
abbrev DAt := Gm → (List Dt → Prop) → Prop
def DE (b : Option Addr) (te : TE) (T : DT) : Prop := ∀ {Fm F0 H0 F H : Hp} {σ : L2.St} {γ : Gm} (P : Dt → Prop), Nv b Fm F0 H0 F H σ γ → T γ P → ∀ Q : VK, (∀ v d F' H', Ext b F H F' H' → Rep b F' v d → P d → Q v H') → te σ H Q
def DB (b : Option Addr) (tt : TT) (T : DBt) : Prop := ∀ {Fm F0 H0 F H : Hp} {σ : L2.St} {γ : Gm} (P : Bool → Prop), Nv b Fm F0 H0 F H σ γ → T γ P → ∀ Q : Bool → Hp → Prop, (∀ c F' H', Ext b F H F' H' → P c → Q c H') → tt σ H Q
def DA (b : Option Addr) (ta : TA) (T : DAt) : Prop := ∀ {Fm F0 H0 F H : Hp} {σ : L2.St} {γ : Gm} (P : List Dt → Prop), Nv b Fm F0 H0 F H σ γ → T γ P → ∀ Q : List V → Hp → Prop, (∀ vs ds F' H', Ext b F H F' H' → RepL b F' vs ds → P ds → Q vs H') → ta σ H Q
/-- a new list, not yet taken for a value -/
def DLs (b : Option Addr) (te : TE) (T : DAt) : Prop := ∀ {Fm F0 H0 F H : Hp} {σ : L2.St} {γ : Gm} (P : List Dt → Prop), Nv b Fm F0 H0 F H σ γ → T γ P →
  ∀ Q : VK, (∀ p vs xs F' H', Ext b F H F' H' → H p = none → H' p = some (.lst vs) → F' p = none → RepL b F' vs xs → P xs → Q (.ref p) H') → te σ H Q
structure De where
  nx : Gm → Prop
  rt : Gm → Dt → Prop
  bk : Gm → Prop := fun _ => False
  ct : Gm → Prop := fun _ => False
abbrev DSt := De → Gm → Prop
structure EndsOk (b : Option Addr) (Fm F0 H0 : Hp) (D : Ends) (E : De) : Prop where
  nx : ∀ {F H : Hp} {σ : L2.St} {γ : Gm}, Nv b Fm F0 H0 F H σ γ → E.nx γ → D.nx σ H
  rt : ∀ {F H : Hp} {σ : L2.St} {γ : Gm} {v : V} {d : Dt}, Nv b Fm F0 H0 F H σ γ → Rep b F v d → E.rt γ d → D.rt v H
  bk : ∀ {F H : Hp} {σ : L2.St} {γ : Gm}, Nv b Fm F0 H0 F H σ γ → E.bk γ → D.bk σ H
  ct : ∀ {F H : Hp} {σ : L2.St} {γ : Gm}, Nv b Fm F0 H0 F H σ γ → E.ct γ → D.ct σ H
def DS (b : Option Addr) (ts : TS) (T : DSt) : Prop := ∀ {Fm F0 H0 F H : Hp} {σ : L2.St} {γ : Gm} (E : De), Nv b Fm F0 H0 F H σ γ → T E γ → ∀ D : Ends, EndsOk b Fm F0 H0 D E → ts D σ H
/-- a target of an assignment, the slots that it writes -/
def DG (b : Option Addr) (g : TG) (T : Dt → Gm → (Gm → Prop) → Prop) (js : List Nat) : Prop := ∀ {Fm F0 H0 F H : Hp} {σ : L2.St} {γ : Gm} (P : Gm → Prop) {v : V} {d : Dt}, Nv b Fm F0 H0 F H σ γ → Rep b F v d → T d γ P →
  ∀ Q : L2.St → Hp → Prop, (∀ σ' γ', Nv b Fm F0 H0 F H σ' γ' → σ'.length = σ.length → (∀ i, i ∉ js → σ'[i]? = σ[i]?) → P γ' → Q σ' H) → g v σ H Q
def DGs (b : Option Addr) (g : TGs) (T : List Dt → Gm → (Gm → Prop) → Prop) (js : List Nat) : Prop := ∀ {Fm F0 H0 F H : Hp} {σ : L2.St} {γ : Gm} (P : Gm → Prop) {vs : List V} {ds : List Dt}, Nv b Fm F0 H0 F H σ γ → RepL b F vs ds → T ds γ P →
  ∀ Q : L2.St → Hp → Prop, (∀ σ' γ', Nv b Fm F0 H0 F H σ' γ' → σ'.length = σ.length → (∀ i, i ∉ js → σ'[i]? = σ[i]?) → P γ' → Q σ' H) → g vs σ H Q
/-- what is walked: the items, one after another; Fx what stands still meanwhile -/
structure WalkD (b : Option Addr) (J : It) (Fx : Hp) (xs : List Dt) : Prop where
  ex : ∃ Y, Walk J xs.length (fun H => Sub Fx H) Y ∧ ∀ i H x H', i < xs.length → Y i H x H' → ∃ d, xs[i]? = some d ∧ ((H' = H ∧ Rep b Fx x d) ∨ ∃ T vs ds, x = .ref T ∧ H T = none ∧ H' = upd H T (.tup vs) ∧ RepL b Fx vs ds ∧ d = .tup ds)
def DI (b : Option Addr) (wi : TI) (T : DAt) : Prop := ∀ {Fm F0 H0 F H : Hp} {σ : L2.St} {γ : Gm} (P : List Dt → Prop), Nv b Fm F0 H0 F H σ γ → T γ P →
  ∀ R : It → Hp → Prop, (∀ J xs F' H', Ext b F H F' H' → WalkD b J F' xs → P xs → R J H') → wi σ H R

structure XE (X : Cx) (b : Option Addr) (e : Expr) (T : DT) : Prop where
  ex : ∃ te, PE X e te ∧ DE b te T
structure XL (X : Cx) (b : Option Addr) (e : Expr) (T : DAt) : Prop where
  ex : ∃ te, PE X e te ∧ DLs b te T
structure XT (X : Cx) (b : Option Addr) (e : Expr) (T : DBt) : Prop where
  ex : ∃ te, PT X e te ∧ DB b te T
structure XW (X : Cx) (b : Option Addr) (e : Expr) (T : DBt) : Prop where
  ex : ∃ te, PW X e te ∧ DB b te T
structure XA (X : Cx) (b : Option Addr) (es : List Expr) (T : DAt) : Prop where
  ex : ∃ te, PA X es te ∧ DA b te T
structure XKw (X : Cx) (b : Option Addr) (es : List Keyword) (T : DAt) : Prop where
  ex : ∃ te, PK X es te ∧ DA b te T
structure XG (X : Cx) (b : Option Addr) (e : Expr) (T : Dt → Gm → (Gm → Prop) → Prop) (js : List Nat) : Prop where
  ex : ∃ te, PG X e te ∧ DG b te T js
structure XGs (X : Cx) (b : Option Addr) (es : List Expr) (T : List Dt → Gm → (Gm → Prop) → Prop) (js : List Nat) : Prop where
  ex : ∃ te, PGs X es te ∧ DGs b te T js
structure XI (X : Cx) (b : Option Addr) (tg e : Expr) (T : DAt) : Prop where
  ex : ∃ te, PI X tg e te ∧ DI b te T
structure XTs (X : Cx) (b : Option Addr) (es : List Expr) (T : DBt) : Prop where
  ex : ∃ te, PTs X es te ∧ DB b te T
structure XS (X : Cx) (b : Option Addr) (st : Stmt) (T : DSt) : Prop where
  ex : ∃ te, PS X st te ∧ DS b te T
structure XSs (X : Cx) (b : Option Addr) (st : List Stmt) (T : DSt) : Prop where
  ex : ∃ te, PSs X st te ∧ DS b te T
end DL

namespace DL
open PySem PySem.Spec PyProof.Rows L2
section
variable {X : Cx} {b : Option Addr} {e e1 e2 e3 : Expr} {es : List Expr} {pos : Pos}
@[reducible] def nB : Bool → Bool
  | true => false
  | false => true
@[reducible] def oB : Bool → Bool → Bool
  | true, _ => true
  | false, y => y
@[reducible] def eB : Bool → Bool → Bool
  | true, y => y
  | false, y => nB y
theorem nB_eq (k : Bool) : (!k) = nB k := by cases k <;> rfl
theorem oB_eq (k l : Bool) : (k || l) = oB k l := by cases k <;> rfl
theorem eB_eq (k l : Bool) : (k == l) = eB k l := by cases k <;> cases l <;> rfl
/-! ### names, constants -/
@[reducible] def dVar (i : Nat) : DT := fun γ P => match gat γ i with | .val d => P d | _ => False
theorem de_var {i : Nat} : DE b (tVar i) (dVar i) := fun {Fm F0 H0 F H σ γ} P n h Q q => by
  unfold dVar at h
  have hi := n.slot i
  cases e : gat γ i with
  | un => rw [e] at h; exact h.elim
  | own l xs => rw [e] at h; exact h.elim
  | val d =>
    rw [e] at h hi
    obtain ⟨v, h1, h2⟩ := hi
    exact ⟨v, h1, q v d F H (Ext.refl n.ok) h2 h⟩
theorem xv (i : Nat) {x : Str} {pos : Pos} (hN : X.N[i]? = some x := by rfl) (hv : Vis X.env.scope x := by first | exact Or.inl rfl | exact Or.inr (Or.inl rfl) | exact Or.inr (Or.inr rfl)) (hd : (x == ("__debug__" : Str)) = false := by decide)
    (hcd : (x == ("__classdict__" : Str)) = false := by decide) : XE X b (.Name x pos) (dVar i) := ⟨_, pe_var hN hv hd hcd, de_var⟩
@[reducible] def dC (d : Dt) : DT := fun _ P => P d
theorem de_c {v : V} {d : Dt} (r : ∀ F, Rep b F v d) : DE b (tC v) (dC d) := fun P n h Q q => q v d _ _ (Ext.refl n.ok) (r _) h
theorem x_int {i j pos} : XE X b (.Constant (.int i) j pos) (dC (.int i)) := ⟨_, pe_int, de_c fun _ => .int i⟩
theorem x_bl {i j pos} : XE X b (.Constant (.bool i) j pos) (dC (.bl i)) := ⟨_, pe_bl, de_c fun _ => .bl i⟩
theorem x_non {j pos} : XE X b (.Constant .none j pos) (dC .non) := ⟨_, pe_non, de_c fun _ => .non⟩
theorem x_str {i j pos} : XE X b (.Constant (.str i) j pos) (dC (.str i)) := ⟨_, pe_str, de_c fun _ => .str i⟩
theorem x_gint {x : Str} {i : Int} {t : Tok} (hg : Gl X x) (hm : X.mg x = some (.int i t)) (hd : (x == ("__debug__" : Str)) = false := by decide) : XE X b (.Name x pos) (dC (.int i)) := ⟨_, pe_glob hg hm (v := .int i) ⟨t, rfl⟩ hd, de_c fun _ => .int i⟩
theorem x_gstr {x : Str} {i : Str} {t : Tok} (hg : Gl X x) (hm : X.mg x = some (.str i t)) (hd : (x == ("__debug__" : Str)) = false := by decide) : XE X b (.Name x pos) (dC (.str i)) := ⟨_, pe_glob hg hm (v := .str i) ⟨t, rfl⟩ hd, de_c fun _ => .str i⟩

/-! ### two-place operations by values -/
/-- r on what x and y hold gives, wherever, something P of which T tells -/
def D2 (b : Option Addr) (r : R2) (T : Dt → Dt → (Dt → Prop) → Prop) : Prop := ∀ {F H : Hp} {x y : V} {d e : Dt} (P : Dt → Prop), Ok b F H → Rep b F x d → Rep b F y e → T d e P → ∀ Q : VK, (∀ v d F' H', Ext b F H F' H' → Rep b F' v d → P d → Q v H') → r x y H Q
@[reducible] def d2 (T : Dt → Dt → (Dt → Prop) → Prop) (Ta Tb : DT) : DT := fun γ P => Ta γ fun x => Tb γ fun y => T x y P
theorem de_op {r : R2} {ta tb : TE} {Ta Tb : DT} {T} (h : D2 b r T) (ha : DE b ta Ta) (hb : DE b tb Tb) : DE b (tOp r ta tb) (d2 T Ta Tb) := fun P n t Q q =>
  ha _ n t _ fun v d F1 H1 x1 r1 t1 => hb _ (n.to x1) t1 _ fun w e F2 H2 x2 r2 t2 => h P (x2.ok) (x2.mono r1) r2 t2 Q fun u f F3 H3 x3 r3 p => q u f F3 H3 ((x1.trans x2).trans x3) r3 p
theorem d2_I0 {g : Int → Int → V} {gD : Int → Int → Dt} (h : ∀ i j F, Rep b F (g i j) (gD i j)) : D2 b (rI0 g) (fun x y P => match x, y with | .int i, .int j => P (gD i j) | _, _ => False) := fun {F H x y d e} P k r1 r2 t Q q => by
  cases r1 <;> cases r2 <;> first | exact ⟨_, _, rfl, rfl, q _ _ F H (Ext.refl k) (h _ _ F) t⟩ | exact t.elim
theorem d2_I {C : Int → Int → Prop} {g : Int → Int → V} {gD : Int → Int → Dt} (h : ∀ i j F, Rep b F (g i j) (gD i j)) : D2 b (rI C g) (fun x y P => match x, y with | .int i, .int j => C i j ∧ P (gD i j) | _, _ => False) := fun {F H x y d e} P k r1 r2 t Q q => by
  cases r1 <;> cases r2 <;> first | exact ⟨_, _, rfl, rfl, t.1, q _ _ F H (Ext.refl k) (h _ _ F) t.2⟩ | exact t.elim
@[reducible] def vInt (f : Int → Int → Int) (x y : Dt) (P : Dt → Prop) : Prop := match x, y with | .int i, .int j => P (.int (f i j)) | _, _ => False
@[reducible] def vIntC (C : Int → Int → Prop) (f : Int → Int → Int) (x y : Dt) (P : Dt → Prop) : Prop := match x, y with | .int i, .int j => C i j ∧ P (.int (f i j)) | _, _ => False
@[reducible] def vBl (f : Int → Int → Bool) (x y : Dt) (P : Dt → Prop) : Prop := match x, y with | .int i, .int j => P (.bl (f i j)) | _, _ => False
theorem x_sub (ha : XE X b e1 Ta) (hb : XE X b e2 Tb) : XE X b (.BinOp e1 .Sub e2 pos) (d2 (vInt fun i j => i - j) Ta Tb) := by
  obtain ⟨_, h1, h2⟩ := ha; obtain ⟨_, g1, g2⟩ := hb
  exact ⟨_, pe_op op_sub h1 g1, de_op (d2_I0 fun i j _ => .int _) h2 g2⟩
theorem x_addI (ha : XE X b e1 Ta) (hb : XE X b e2 Tb) : XE X b (.BinOp e1 .Add e2 pos) (d2 (vInt fun i j => i + j) Ta Tb) := by
  obtain ⟨_, h1, h2⟩ := ha; obtain ⟨_, g1, g2⟩ := hb
  exact ⟨_, pe_op op_add h1 g1, de_op (d2_I0 fun i j _ => .int _) h2 g2⟩
theorem x_mul (ha : XE X b e1 Ta) (hb : XE X b e2 Tb) : XE X b (.BinOp e1 .Mult e2 pos) (d2 (vIntC CMul fun i j => i * j) Ta Tb) := by
  obtain ⟨_, h1, h2⟩ := ha; obtain ⟨_, g1, g2⟩ := hb
  exact ⟨_, pe_op op_mul h1 g1, de_op (d2_I fun i j _ => .int _) h2 g2⟩
theorem x_mod (ha : XE X b e1 Ta) (hb : XE X b e2 Tb) : XE X b (.BinOp e1 .Mod e2 pos) (d2 (vIntC (fun _ j => 0 < j) fun i j => i % j) Ta Tb) := by
  obtain ⟨_, h1, h2⟩ := ha; obtain ⟨_, g1, g2⟩ := hb
  exact ⟨_, pe_op op_mod h1 g1, de_op (d2_I fun i j _ => .int _) h2 g2⟩
theorem x_fdiv (ha : XE X b e1 Ta) (hb : XE X b e2 Tb) : XE X b (.BinOp e1 .FloorDiv e2 pos) (d2 (vIntC CDiv fun i j => i / j) Ta Tb) := by
  obtain ⟨_, h1, h2⟩ := ha; obtain ⟨_, g1, g2⟩ := hb
  exact ⟨_, pe_op op_fdiv h1 g1, de_op (d2_I fun i j _ => .int _) h2 g2⟩
theorem x_pow (ha : XE X b e1 Ta) (hb : XE X b e2 Tb) : XE X b (.BinOp e1 .Pow e2 pos) (d2 (vIntC CPow fun i j => i ^ j.toNat) Ta Tb) := by
  obtain ⟨_, h1, h2⟩ := ha; obtain ⟨_, g1, g2⟩ := hb
  exact ⟨_, pe_op op_pow h1 g1, de_op (d2_I fun i j _ => .int _) h2 g2⟩
theorem x_lt (ha : XE X b e1 Ta) (hb : XE X b e2 Tb) : XE X b (.Compare e1 [.Lt] [e2] pos) (d2 (vBl fun i j => decide (i < j)) Ta Tb) := by
  obtain ⟨_, h1, h2⟩ := ha; obtain ⟨_, g1, g2⟩ := hb
  exact ⟨_, pe_cmpR op_lt h1 g1 (nomark _), de_op (d2_I0 fun i j _ => .bl _) h2 g2⟩
theorem x_le (ha : XE X b e1 Ta) (hb : XE X b e2 Tb) : XE X b (.Compare e1 [.LtE] [e2] pos) (d2 (vBl fun i j => decide (i ≤ j)) Ta Tb) := by
  obtain ⟨_, h1, h2⟩ := ha; obtain ⟨_, g1, g2⟩ := hb
  exact ⟨_, pe_cmpR op_le h1 g1 (nomark _), de_op (d2_I0 fun i j _ => .bl _) h2 g2⟩
theorem x_gt (ha : XE X b e1 Ta) (hb : XE X b e2 Tb) : XE X b (.Compare e1 [.Gt] [e2] pos) (d2 (vBl fun i j => decide (j < i)) Ta Tb) := by
  obtain ⟨_, h1, h2⟩ := ha; obtain ⟨_, g1, g2⟩ := hb
  exact ⟨_, pe_cmpR op_gt h1 g1 (nomark _), de_op (d2_I0 fun i j _ => .bl _) h2 g2⟩
theorem x_ge (ha : XE X b e1 Ta) (hb : XE X b e2 Tb) : XE X b (.Compare e1 [.GtE] [e2] pos) (d2 (vBl fun i j => decide (j ≤ i)) Ta Tb) := by
  obtain ⟨_, h1, h2⟩ := ha; obtain ⟨_, g1, g2⟩ := hb
  exact ⟨_, pe_cmpR op_ge h1 g1 (nomark _), de_op (d2_I0 fun i j _ => .bl _) h2 g2⟩
/-- a <= b <= c over ints -/
def dChI (p p' : Int → Int → Bool) (Ta Tb Tc : DT) : DT := fun γ P => Ta γ fun x => Tb γ fun y => match x, y with | .int i, .int j => (match p i j with | true => (Tc γ fun z => (match z with | .int k => P (.bl (p' j k)) | _ => False)) | false => P (.bl false)) | _, _ => False
theorem de_chain {p p' : Int → Int → Bool} {ta tb tc : TE} {Ta Tb Tc : DT} (ha : DE b ta Ta) (hb : DE b tb Tb) (hc : DE b tc Tc) : DE b (tChain (rI0 fun i j => .bl (p i j)) (rI0 fun i j => .bl (p' i j)) ta tb tc) (dChI p p' Ta Tb Tc) := fun P n t Q q =>
  ha _ n t _ fun v d F1 H1 x1 r1 t1 => hb _ (n.to x1) t1 _ fun w e F2 H2 x2 r2 t2 => by
    cases r1 <;> cases r2 <;> first | exact t2.elim | skip
    refine ⟨_, _, rfl, rfl, _, rfl, ?_⟩
    rename_i i j
    cases hp : p i j with
    | true =>
      simp only [hp, if_true] at t2 ⊢
      exact hc _ (n.to (x1.trans x2)) t2 _ fun u f F3 H3 x3 r3 t3 => by
        cases r3 <;> first | exact t3.elim | skip
        exact ⟨_, _, rfl, rfl, q _ _ F3 H3 ((x1.trans x2).trans x3) (.bl _) t3⟩
    | false =>
      simp only [hp] at t2 ⊢
      exact q _ _ F2 H2 (x1.trans x2) (.bl _) t2
theorem x_chLeLe (ha : XE X b e1 Ta) (hb : XE X b e2 Tb) (hc : XE X b e3 Tc) (hm : lastMarks [.LtE, .LtE] [e2, e3] = false := by with_unfolding_all rfl) : XE X b (.Compare e1 [.LtE, .LtE] [e2, e3] pos) (dChI (fun i j => decide (i ≤ j)) (fun i j => decide (i ≤ j)) Ta Tb Tc) := by
  obtain ⟨_, h1, h2⟩ := ha; obtain ⟨_, g1, g2⟩ := hb; obtain ⟨_, f1, f2⟩ := hc
  exact ⟨_, pe_chain op_le op_le h1 g1 f1 hm, de_chain h2 g2 f2⟩

/-! ### is None, is False -/
@[reducible] def isNo : Dt → Bool
  | .non => true
  | _ => false
@[reducible] def dIsN (Ta : DT) : DT := fun γ P => Ta γ fun x => P (.bl (isNo x))
theorem rep_non {F : Hp} {v : V} {d : Dt} (r : Rep b F v d) : decide (v = .non) = isNo d := by
  cases r <;> first | rfl | (apply decide_eq_false; intro z; cases z)
theorem x_isN {j p2} (ha : XE X b e1 Ta) : XE X b (.Compare e1 [.Is] [.Constant .none j p2] pos) (dIsN Ta) := by
  obtain ⟨_, h1, h2⟩ := ha
  exact ⟨_, pe_cmp (pc_isN h1) (by rfl), fun P n t Q q => h2 _ n t _ fun v d F1 H1 x1 r1 t1 => q _ _ F1 H1 x1 (by rw [rep_non r1]; exact .bl _) t1⟩
@[reducible] def dNotN (Ta : DT) : DT := fun γ P => Ta γ fun x => P (.bl (nB (isNo x)))
theorem x_notN {j p2} (ha : XE X b e1 Ta) : XE X b (.Compare e1 [.IsNot] [.Constant .none j p2] pos) (dNotN Ta) := by
  obtain ⟨_, h1, h2⟩ := ha
  refine ⟨_, pe_cmp (pc_notN h1) (by rfl), fun P n t Q q => h2 _ n t _ fun v d F1 H1 x1 r1 t1 => q _ _ F1 H1 x1 (by rw [rep_non r1, nB_eq]; exact .bl _) t1⟩
@[reducible] def vIsB (neg : Bool) (x y : Dt) (P : Dt → Prop) : Prop := match x, y with | .bl i, .bl j => P (.bl (match neg with | true => nB (eB i j) | false => eB i j)) | _, _ => False
theorem dec_eB (i j : Bool) : decide (i = j) = eB i j := by cases i <;> cases j <;> rfl
theorem d2_isB : D2 b rIsB (vIsB false) := fun {F H x y d e} P k r1 r2 t Q q => by
  cases r1 <;> cases r2 <;> first | exact t.elim | skip
  exact ⟨_, _, rfl, rfl, q _ _ F H (Ext.refl k) (by rw [dec_eB]; exact .bl _) t⟩
theorem d2_notB : D2 b rNotB (vIsB true) := fun {F H x y d e} P k r1 r2 t Q q => by
  cases r1 <;> cases r2 <;> first | exact t.elim | skip
  exact ⟨_, _, rfl, rfl, q _ _ F H (Ext.refl k) (by rw [dec_eB, nB_eq]; exact .bl _) t⟩
theorem x_isB (ha : XE X b e1 Ta) (hb : XE X b e2 Tb) : XE X b (.Compare e1 [.Is] [e2] pos) (d2 (vIsB false) Ta Tb) := by
  obtain ⟨_, h1, h2⟩ := ha; obtain ⟨_, g1, g2⟩ := hb
  exact ⟨_, pe_cmpR op_isBl h1 g1 (nomark _), de_op d2_isB h2 g2⟩
theorem x_notB (ha : XE X b e1 Ta) (hb : XE X b e2 Tb) : XE X b (.Compare e1 [.IsNot] [e2] pos) (d2 (vIsB true) Ta Tb) := by
  obtain ⟨_, h1, h2⟩ := ha; obtain ⟨_, g1, g2⟩ := hb
  exact ⟨_, pe_cmpR op_notBl h1 g1 (nomark _), de_op d2_notB h2 g2⟩

/-! ### == and != of data -/
mutual
def plain : Dt → Bool
  | .lst xs => plainL xs
  | .tup xs => plainL xs
  | .ins _ _ => false
  | .dT _ => false
  | .bag => false
  | _ => true
def plainL : List Dt → Bool
  | [] => true
  | x :: xs => plain x && plainL xs
end
mutual
def py : Dt → PyData
  | .non => .none
  | .bl k => .bool k
  | .int i => .int i
  | .str x => .str x
  | .lst xs => .list (pyL xs)
  | .tup xs => .tuple (pyL xs)
  | _ => .none
def pyL : List Dt → List PyData
  | [] => []
  | x :: xs => py x :: pyL xs
end
section
variable {F H : Hp} {K : PySem.W.Frag}
mutual
theorem rep_dp (s : Sub F H) : ∀ {d : Dt} {v : V}, Rep b F v d → plain d = true → Dp K H v (py d)
  | .non, _, h, _ => by cases h; exact .non
  | .bl _, _, h, _ => by cases h; exact .bl _
  | .int _, _, h, _ => by cases h; exact .int _
  | .str _, _, h, _ => by cases h; exact .str _
  | .lst xs, _, h, p => by
    cases h with
    | lst e r => exact .lst (SqL.of (s _ _ e)) (rep_dpL s r p)
  | .tup xs, _, h, p => by
    cases h with
    | tup e r => exact .tup (SqT.of (s _ _ e)) (rep_dpL s r p)
  | .ins C fs, _, h, p => by cases p
  | .dT kvs, _, h, p => by cases p
  | .bag, _, h, p => by cases p
theorem rep_dpL (s : Sub F H) : ∀ {ds : List Dt} {vs : List V}, RepL b F vs ds → plainL ds = true → DpAll K H vs (pyL ds)
  | [], _, h, _ => by cases h; exact .nil
  | d :: ds, _, h, p => by
    cases h with
    | cons r t =>
      have p2 : (plain d && plainL ds) = true := p
      rw [Bool.and_eq_true] at p2
      exact .cons (rep_dp s r p2.1) (rep_dpL s t p2.2)
end
end
def eqOk (x : Dt) : Bool := plain x && SeqAt.shaped (py x)
@[reducible] def xB : Bool → Bool → Bool
  | true, k => nB k
  | false, k => k
@[reducible] def vEq (neg : Bool) (x y : Dt) (P : Dt → Prop) : Prop := match x, y with
  | .bl i, .bl j => P (.bl (xB neg (eB i j)))
  | .int i, .int j => P (.bl (xB neg (decide (i = j))))
  | .str i, .str j => P (.bl (xB neg (decide (i = j))))
  | x, y => eqOk x = true ∧ eqOk y = true ∧ P (.bl (xB neg (PyData.eqv (py x) (py y))))
theorem dV_int (i j : Int) : decide (V.int i = V.int j) = decide (i = j) := by
  by_cases h : i = j
  · subst h; simp
  · rw [decide_eq_false h, decide_eq_false fun z => h (V.int.inj z)]
theorem dV_str (i j : Str) : decide (V.str i = V.str j) = decide (i = j) := by
  by_cases h : i = j
  · subst h; simp
  · rw [decide_eq_false h, decide_eq_false fun z => h (V.str.inj z)]
theorem dV_bl (i j : Bool) : decide (V.bl i = V.bl j) = eB i j := by cases i <;> cases j <;> rfl
theorem vEq_cases {F : Hp} {neg : Bool} {x y : V} {d e : Dt} {P : Dt → Prop} (r1 : Rep b F x d) (r2 : Rep b F y e) (t : vEq neg d e P) :
    (scal x y = true ∧ P (.bl (xB neg (decide (x = y))))) ∨ (eqOk d = true ∧ eqOk e = true ∧ P (.bl (xB neg (PyData.eqv (py d) (py e))))) := by
  cases r1 <;> cases r2 <;> first | exact .inr t | exact .inl ⟨rfl, by rw [dV_int]; exact t⟩ | exact .inl ⟨rfl, by rw [dV_str]; exact t⟩ | exact .inl ⟨rfl, by rw [dV_bl]; exact t⟩
theorem d2_eqD {K} : D2 b (fun x y H Q => rEq x y H Q ∨ rEqD K x y H Q) (vEq false) := fun {F H x y d e} P k r1 r2 t Q q => by
  rcases vEq_cases r1 r2 t with ⟨t1, t2⟩ | ⟨t1, t2, t3⟩
  · exact .inl ⟨t1, q _ _ F H (Ext.refl k) (.bl _) t2⟩
  · unfold eqOk at t1 t2
    rw [Bool.and_eq_true] at t1 t2
    exact .inr ⟨_, _, rep_dp k.1 r1 t1.1, rep_dp k.1 r2 t2.1, t1.2, t2.2, q _ _ F H (Ext.refl k) (.bl _) t3⟩
theorem d2_neD {K} : D2 b (fun x y H Q => rNe x y H Q ∨ rNeD K x y H Q) (vEq true) := fun {F H x y d e} P k r1 r2 t Q q => by
  rcases vEq_cases r1 r2 t with ⟨t1, t2⟩ | ⟨t1, t2, t3⟩
  · exact .inl ⟨t1, q _ _ F H (Ext.refl k) (by rw [nB_eq]; exact .bl _) t2⟩
  · unfold eqOk at t1 t2
    rw [Bool.and_eq_true] at t1 t2
    exact .inr ⟨_, _, rep_dp k.1 r1 t1.1, rep_dp k.1 r2 t2.1, t1.2, t2.2, q _ _ F H (Ext.refl k) (by rw [nB_eq]; exact .bl _) t3⟩
theorem x_eq (hu : X.A.units + 64 < cLine) (ha : XE X b e1 Ta) (hb : XE X b e2 Tb) : XE X b (.Compare e1 [.Eq] [e2] pos) (d2 (vEq false) Ta Tb) := by
  obtain ⟨_, h1, h2⟩ := ha; obtain ⟨_, g1, g2⟩ := hb
  exact ⟨_, pe_cmpR (op_eq.or (op_eqD hu)) h1 g1 (nomark _), de_op d2_eqD h2 g2⟩
theorem x_ne (hu : X.A.units + 64 < cLine) (ha : XE X b e1 Ta) (hb : XE X b e2 Tb) : XE X b (.Compare e1 [.NotEq] [e2] pos) (d2 (vEq true) Ta Tb) := by
  obtain ⟨_, h1, h2⟩ := ha; obtain ⟨_, g1, g2⟩ := hb
  exact ⟨_, pe_cmpR (op_ne.or (op_neD hu)) h1 g1 (nomark _), de_op d2_neD h2 g2⟩

/-! ### membership -/
def flatD : Dt → Bool
  | .non => true | .bl _ => true | .int _ => true | .str _ => true | _ => false
theorem flat_of {F : Hp} {v : V} {d : Dt} (r : Rep b F v d) : flatD d = true → flatV v = true := by
  cases r <;> intro h <;> first | rfl | cases h
theorem flat_all {F : Hp} : ∀ {ds : List Dt} {vs : List V}, RepL b F vs ds → ds.all flatD = true → vs.all flatV = true
  | [], _, h, _ => by cases h; rfl
  | d :: ds, _, h, p => by
    cases h with
    | cons r t =>
      rw [List.all_cons, Bool.and_eq_true] at p ⊢
      exact ⟨flat_of r p.1, flat_all t p.2⟩
def dv : Dt → V
  | .bl k => .bl k | .int i => .int i | .str x => .str x | _ => .non
theorem dv_of {F : Hp} {v : V} {d : Dt} (r : Rep b F v d) (f : flatD d = true) : v = dv d := by
  cases r <;> first | rfl | cases f
def inD (x : Dt) (xs : List Dt) : Bool := xs.any fun y => eqV (dv y) (dv x)
theorem inV_of {F : Hp} {v : V} {d : Dt} (r : Rep b F v d) (f : flatD d = true) : ∀ {ds : List Dt} {vs : List V}, RepL b F vs ds → ds.all flatD = true → inV v vs = inD d ds
  | [], _, h, _ => by cases h; rfl
  | z :: ds, _, h, p => by
    cases h with
    | cons r2 t =>
      rw [List.all_cons, Bool.and_eq_true] at p
      show (eqV _ v || inV v _) = (eqV (dv z) (dv d) || inD d ds)
      rw [inV_of r f t p.2, dv_of r2 p.1, dv_of r f]
@[reducible] def vIn (neg : Bool) (x y : Dt) (P : Dt → Prop) : Prop := match y with
  | .lst xs => flatD x = true ∧ xs.all flatD = true ∧ P (.bl (match neg with | true => nB (inD x xs) | false => inD x xs))
  | .tup xs => flatD x = true ∧ xs.all flatD = true ∧ P (.bl (match neg with | true => nB (inD x xs) | false => inD x xs))
  | _ => False
theorem d2_in {K} {neg : Bool} : D2 b (rIn K neg) (vIn neg) := fun {F H x y d e} P k r1 r2 t Q q => by
  cases r2 with
  | lst h r =>
    obtain ⟨t1, t2, t3⟩ := t
    refine ⟨_, _, rfl, .inl (SqL.of (k.1 _ _ h)), flat_of r1 t1, flat_all r t2, ?_⟩
    rw [inV_of r1 t1 r t2]
    refine q _ _ F H (Ext.refl k) ?_ t3
    cases neg with
    | true =>
      show Rep b F (.bl (!inD _ _)) (.bl (nB (inD _ _)))
      rw [nB_eq]
      exact .bl _
    | false => exact .bl _
  | tup h r =>
    obtain ⟨t1, t2, t3⟩ := t
    refine ⟨_, _, rfl, .inr (SqT.of (k.1 _ _ h)), flat_of r1 t1, flat_all r t2, ?_⟩
    rw [inV_of r1 t1 r t2]
    refine q _ _ F H (Ext.refl k) ?_ t3
    cases neg with
    | true =>
      show Rep b F (.bl (!inD _ _)) (.bl (nB (inD _ _)))
      rw [nB_eq]
      exact .bl _
    | false => exact .bl _
  | _ => exact t.elim
theorem x_in (ha : XE X b e1 Ta) (hb : XE X b e2 Tb) (hm : behindInMarks .In e2 = false := by rfl) : XE X b (.Compare e1 [.In] [e2] pos) (d2 (vIn false) Ta Tb) := by
  obtain ⟨_, h1, h2⟩ := ha; obtain ⟨_, g1, g2⟩ := hb
  exact ⟨_, pe_cmpR op_in_seq h1 g1 hm, de_op d2_in h2 g2⟩
theorem x_notIn (ha : XE X b e1 Ta) (hb : XE X b e2 Tb) (hm : behindInMarks .NotIn e2 = false := by rfl) : XE X b (.Compare e1 [.NotIn] [e2] pos) (d2 (vIn true) Ta Tb) := by
  obtain ⟨_, h1, h2⟩ := ha; obtain ⟨_, g1, g2⟩ := hb
  exact ⟨_, pe_cmpR op_notIn_seq h1 g1 hm, de_op d2_in h2 g2⟩
/-- one sign in a text -/
@[reducible] def vInS (x y : Dt) (P : Dt → Prop) : Prop := match x, y with
  | .str u, .str z => ∃ c, u = ⟨#[c]⟩ ∧ P (.bl (decide (c ∈ z.cps.toList)))
  | _, _ => False
theorem x_inS (ha : XE X b e1 Ta) (hb : XE X b e2 Tb) (hm : behindInMarks .In e2 = false := by rfl) : XE X b (.Compare e1 [.In] [e2] pos) (d2 vInS Ta Tb) := by
  obtain ⟨_, h1, h2⟩ := ha; obtain ⟨_, g1, g2⟩ := hb
  refine ⟨_, pe_cmpR op_in_sign h1 g1 hm, de_op (fun {F H x y d e} P k r1 r2 t Q q => ?_) h2 g2⟩
  cases r1 <;> cases r2 <;> first | exact t.elim | skip
  obtain ⟨c, rfl, t⟩ := t
  exact ⟨_, _, rfl, rfl, q _ _ F H (Ext.refl k) (.bl _) t⟩

/-! ### and, or, not, if -/
def dAnd (Ta Tb : DT) : DT := fun γ P => Ta γ fun x => match x with | .bl true => Tb γ P | .bl false => P (.bl false) | _ => False
def dOr (Ta Tb : DT) : DT := fun γ P => Ta γ fun x => match x with | .bl false => Tb γ P | .bl true => P (.bl true) | _ => False
@[reducible] def dNot (Ta : DT) : DT := fun γ P => Ta γ fun x => match x with | .bl k => P (.bl (nB k)) | _ => False
theorem x_and {r : List Expr} (ha : XE X b e1 Ta) (hb : XE X b (.BoolOp .And (e2 :: r) pos) Tb) : XE X b (.BoolOp .And (e1 :: e2 :: r) pos) (dAnd Ta Tb) := by
  obtain ⟨_, h1, h2⟩ := ha; obtain ⟨_, g1, g2⟩ := hb
  refine ⟨_, pe_and h1 g1, fun P n t Q q => h2 _ n t _ fun v d F1 H1 x1 r1 t1 => ?_⟩
  cases r1 <;> first | exact t1.elim | skip
  rename_i k
  refine ⟨k, rfl, ?_⟩
  cases k with
  | true => exact iteT (g2 _ (n.to x1) t1 _ fun u f F3 H3 x3 r3 p => q u f F3 H3 (x1.trans x3) r3 p)
  | false => exact iteF (q _ _ F1 H1 x1 (.bl _) t1)
theorem x_or {r : List Expr} (ha : XE X b e1 Ta) (hb : XE X b (.BoolOp .Or (e2 :: r) pos) Tb) : XE X b (.BoolOp .Or (e1 :: e2 :: r) pos) (dOr Ta Tb) := by
  obtain ⟨_, h1, h2⟩ := ha; obtain ⟨_, g1, g2⟩ := hb
  refine ⟨_, pe_or h1 g1, fun P n t Q q => h2 _ n t _ fun v d F1 H1 x1 r1 t1 => ?_⟩
  cases r1 <;> first | exact t1.elim | skip
  rename_i k
  refine ⟨k, rfl, ?_⟩
  cases k with
  | false => exact iteF (g2 _ (n.to x1) t1 _ fun u f F3 H3 x3 r3 p => q u f F3 H3 (x1.trans x3) r3 p)
  | true => exact iteT (q _ _ F1 H1 x1 (.bl _) t1)
theorem x_one {op} (ha : XE X b e Ta) : XE X b (.BoolOp op [e] pos) Ta := by
  obtain ⟨_, h1, h2⟩ := ha
  exact ⟨_, pe_one h1, h2⟩
theorem x_not (ha : XE X b e Ta) : XE X b (.UnaryOp .Not e pos) (dNot Ta) := by
  obtain ⟨_, h1, h2⟩ := ha
  refine ⟨_, pe_not h1, fun P n t Q q => h2 _ n t _ fun v d F1 H1 x1 r1 t1 => ?_⟩
  cases r1 <;> first | exact t1.elim | skip
  exact ⟨_, rfl, q _ _ F1 H1 x1 (by rw [nB_eq]; exact .bl _) t1⟩
@[reducible] def dNeg (Ta : DT) : DT := fun γ P => Ta γ fun x => match x with | .int k => P (.int (-k)) | _ => False
theorem x_neg (ha : XE X b e Ta) : XE X b (.UnaryOp .USub e pos) (dNeg Ta) := by
  obtain ⟨_, h1, h2⟩ := ha
  refine ⟨_, pe_un un_neg h1, fun P n t Q q => h2 _ n t _ fun v d F1 H1 x1 r1 t1 => ?_⟩
  cases r1 <;> first | exact t1.elim | skip
  exact ⟨_, rfl, q _ _ F1 H1 x1 (.int _) t1⟩
/-! tests -/
@[reducible] def tB1 (Ta : DT) : DBt := fun γ P => Ta γ fun x => match x with | .bl k => P k | _ => False
theorem db_val {te : TE} {Ta : DT} (h : DE b te Ta) : DB b (tB te) (tB1 Ta) := fun P n t Q q => h _ n t _ fun v d F1 H1 x1 r1 t1 => by
  cases r1 <;> first | exact t1.elim | skip
  exact ⟨_, rfl, q _ F1 H1 x1 t1⟩
theorem t_val (ha : XE X b e Ta) (he : ∀ whole, isTrue e X.env whole = (do let v ← whole; standAt e.pos; holding [v] (truthy v)) := by intro _; rfl) : XT X b e (tB1 Ta) := by
  obtain ⟨_, h1, h2⟩ := ha
  exact ⟨_, pt_val h1 he, db_val h2⟩
@[reducible] def bAnd (A B : DBt) : DBt := fun γ P => A γ fun c => (match c with | true => B γ P | false => P false)
@[reducible] def bOr (A B : DBt) : DBt := fun γ P => A γ fun c => (match c with | true => P true | false => B γ P)
@[reducible] def bNot (A : DBt) : DBt := fun γ P => A γ fun c => P (nB c)
theorem t_not (ha : XT X b e A) : XT X b (.UnaryOp .Not e pos) (bNot A) := by
  obtain ⟨_, h1, h2⟩ := ha
  exact ⟨_, pt_not h1, fun P n t Q q => h2 _ n t _ fun c F1 H1 x1 t1 => by
    rw [nB_eq]
    exact q _ F1 H1 x1 t1⟩
theorem w_and1 (ha : XT X b e A) : XW X b (.BoolOp .And [e] pos) A := by
  obtain ⟨_, h1, h2⟩ := ha
  exact ⟨_, pw_and1 h1, h2⟩
theorem w_or1 (ha : XT X b e A) : XW X b (.BoolOp .Or [e] pos) A := by
  obtain ⟨_, h1, h2⟩ := ha
  exact ⟨_, pw_or1 h1, h2⟩
theorem w_and {r : List Expr} (ha : XT X b e1 A) (hb : XW X b (.BoolOp .And (e2 :: r) pos) B) : XW X b (.BoolOp .And (e1 :: e2 :: r) pos) (bAnd A B) := by
  obtain ⟨_, h1, h2⟩ := ha; obtain ⟨_, g1, g2⟩ := hb
  refine ⟨_, pw_and h1 g1, fun P n t Q q => h2 _ n t _ fun c F1 H1 x1 t1 => ?_⟩
  cases c with
  | true =>
    exact iteT (g2 _ (n.to x1) t1 _ fun f F3 H3 x3 p => q f F3 H3 (x1.trans x3) p)
  | false =>
    exact iteF (q _ F1 H1 x1 t1)
theorem w_or {r : List Expr} (ha : XT X b e1 A) (hb : XW X b (.BoolOp .Or (e2 :: r) pos) B) : XW X b (.BoolOp .Or (e1 :: e2 :: r) pos) (bOr A B) := by
  obtain ⟨_, h1, h2⟩ := ha; obtain ⟨_, g1, g2⟩ := hb
  refine ⟨_, pw_or h1 g1, fun P n t Q q => h2 _ n t _ fun c F1 H1 x1 t1 => ?_⟩
  cases c with
  | false =>
    exact iteF (g2 _ (n.to x1) t1 _ fun f F3 H3 x3 p => q f F3 H3 (x1.trans x3) p)
  | true =>
    exact iteT (q _ F1 H1 x1 t1)
theorem t_w (ha : XW X b e A) : XT X b e A := by
  obtain ⟨_, h1, h2⟩ := ha
  exact ⟨_, h1.pt, h2⟩
/-- any value, by its truth -/
@[reducible] def vTru (x : Dt) (P : Bool → Prop) : Prop := match x with
  | .non => P false
  | .bl k => P k
  | .int i => P (i != 0)
  | .str y => y.length ≤ 100000 ∧ P ((y.length : Int) != 0)
  | .lst xs => P (!xs.isEmpty)
  | .tup xs => P (!xs.isEmpty)
  | _ => False
theorem isEmpty_rep {F : Hp} {vs : List V} {xs : List Dt} (r : RepL b F vs xs) : vs.isEmpty = xs.isEmpty := by
  cases r <;> rfl
theorem tru_of {F H : Hp} {K : PySem.W.Frag} {v : V} {d : Dt} {P : Bool → Prop} (s : Sub F H) (r : Rep b F v d) (t : vTru d P) : ∃ k, TruV K v H k ∧ P k := by
  cases r with
  | non => exact ⟨_, rfl, t⟩
  | bl k => exact ⟨_, rfl, t⟩
  | int i => exact ⟨_, rfl, t⟩
  | str x => exact ⟨_, ⟨Nat.le_trans t.1 (by decide), rfl⟩, t.2⟩
  | lst e r => exact ⟨_, .inl ⟨_, SqL.of (s _ _ e), rfl⟩, by rw [isEmpty_rep r]; exact t⟩
  | tup e r => exact ⟨_, .inr (.inl ⟨_, SqT.of (s _ _ e), rfl⟩), by rw [isEmpty_rep r]; exact t⟩
  | ins e r => exact t.elim
  | dT e r => exact t.elim
  | bag e => exact t.elim
@[reducible] def tTr (Ta : DT) : DBt := fun γ P => Ta γ fun x => vTru x P
theorem t_truth (ha : XE X b e Ta) (he : ∀ whole, isTrue e X.env whole = (do let v ← whole; standAt e.pos; holding [v] (truthy v)) := by intro _; rfl) : XT X b e (tTr Ta) := by
  obtain ⟨_, h1, h2⟩ := ha
  refine ⟨_, pt_truth h1 he, fun P n t Q q => h2 _ n t _ fun v d F1 H1 x1 r1 t1 => ?_⟩
  obtain ⟨k, a1, a2⟩ := tru_of (K := X.K) x1.sub r1 t1
  exact ⟨k, a1, q k F1 H1 x1 a2⟩
@[reducible] def dIf (A : DBt) (Ta Tb : DT) : DT := fun γ P => A γ fun c => (match c with | true => Ta γ P | false => Tb γ P)
theorem x_if (hc : XT X b e A) (ha : XE X b e1 Ta) (hb : XE X b e2 Tb) : XE X b (.IfExp e e1 e2 pos) (dIf A Ta Tb) := by
  obtain ⟨_, f1, f2⟩ := hc; obtain ⟨_, h1, h2⟩ := ha; obtain ⟨_, g1, g2⟩ := hb
  refine ⟨_, pe_ifExp f1 h1 g1, fun P n t Q q => f2 _ n t _ fun c F1 H1 x1 t1 => ?_⟩
  cases c with
  | true =>
    exact iteT (h2 _ (n.to x1) t1 _ fun u f F3 H3 x3 r3 p => q u f F3 H3 (x1.trans x3) r3 p)
  | false =>
    exact iteF (g2 _ (n.to x1) t1 _ fun u f F3 H3 x3 r3 p => q u f F3 H3 (x1.trans x3) r3 p)
end
end DL

namespace DL
open PySem PySem.Spec PyProof.Rows L2
section
variable {X : Cx} {b : Option Addr} {e e1 e2 e3 : Expr} {es : List Expr} {pos : Pos}
/-! ### arguments, displays -/
@[reducible] def aNil : DAt := fun _ P => P []
@[reducible] def aCons (Ta : DT) (Tr : DAt) : DAt := fun γ P => Ta γ fun x => Tr γ fun xs => P (x :: xs)
theorem a_nil : XA X b [] aNil := ⟨_, pa_nil, fun P n t Q q => q [] [] _ _ (Ext.refl n.ok) .nil t⟩
theorem da_cons {te : TE} {tr : TA} (h2 : DE b te Ta) (g2 : DA b tr Tr) : DA b (tCons te tr) (aCons Ta Tr) := fun P n t Q q => h2 _ n t _ fun v d F1 H1 x1 r1 t1 =>
  g2 _ (n.to x1) t1 _ fun vs ds F2 H2 x2 r2 t2 => q _ _ F2 H2 (x1.trans x2) (.cons (x2.mono r1) r2) t2
theorem a_cons (ha : XE X b e Ta) (hr : XA X b es Tr) (hs : starEach (e :: es) X.env = (false, eval e X.env) :: starEach es X.env := by rfl) : XA X b (e :: es) (aCons Ta Tr) := by
  obtain ⟨_, h1, h2⟩ := ha; obtain ⟨_, g1, g2⟩ := hr
  exact ⟨_, pa_cons h1 g1 hs, da_cons h2 g2⟩
theorem k_nil : XKw X b [] aNil := ⟨_, pk_nil, fun P n t Q q => q [] [] _ _ (Ext.refl n.ok) .nil t⟩
theorem k_cons {nm : Option Str} {kpos : Pos} {kws : List Keyword} (ha : XE X b e Ta) (hr : XKw X b kws Tr) : XKw X b (⟨nm, e, kpos⟩ :: kws) (aCons Ta Tr) := by
  obtain ⟨_, h1, h2⟩ := ha; obtain ⟨_, g1, g2⟩ := hr
  exact ⟨_, pk_cons h1 g1, da_cons h2 g2⟩
@[reducible] def dTup (Ta : DAt) : DT := fun γ P => Ta γ fun xs => xs.length ≤ 100000 ∧ P (.tup xs)
theorem x_tup {x1} (h : XA X b es Ta) : XE X b (.Tuple es x1 pos) (dTup Ta) := by
  obtain ⟨_, h1, h2⟩ := h
  refine ⟨_, pe_tup h1, fun P n t Q q => h2 _ n t _ fun vs ds F1 H1 x1 r1 t1 => ⟨Nat.le_trans (by rw [r1.length]; exact t1.1) (by decide), fun p hp => ?_⟩⟩
  exact q _ _ (upd F1 p (.tup vs)) _ (x1.trans (Ext.push x1.ok hp)) (.tup upd_same (r1.mono (Ext.push x1.ok hp).grow)) t1.2
@[reducible] def lDisp (Ta : DAt) : DAt := fun γ P => Ta γ fun xs => xs.length ≤ 100000 ∧ P xs
theorem l_lst (h : XA X b es Ta) : XL X b (.List es pos) (lDisp Ta) := by
  obtain ⟨_, h1, h2⟩ := h
  refine ⟨_, pe_lst h1, fun P n t Q q => h2 _ n t _ fun vs ds F1 H1 x1 r1 t1 => ⟨Nat.le_trans (by rw [r1.length]; exact t1.1) (by decide), fun p hp => ?_⟩⟩
  exact q p vs ds F1 _ (x1.trans (Ext.laid x1.ok hp)) (x1.back n.ok hp) upd_same (x1.ok.fF hp) r1 t1.2
/-- a new list as a value -/
@[reducible] def dL (Tl : DAt) : DT := fun γ P => Tl γ fun xs => P (.lst xs)
theorem de_l {te : TE} {Tl : DAt} (h : DLs b te Tl) : DE b te (dL Tl) := fun P n t Q q => h _ n t _ fun p vs xs F1 H1 x1 hp h1 hf r p1 => by
  have nb := n.ok.nb hp
  have x2 := x1.take hp nb h1
  exact q _ _ (upd F1 p (.lst vs)) H1 x2 (.lst upd_same (r.mono fun a u z => by rw [upd_ne (ne_of_none z hf)]; exact z)) p1
theorem x_l (h : XL X b e Tl) : XE X b e (dL Tl) := by
  obtain ⟨_, h1, h2⟩ := h
  exact ⟨_, h1, de_l h2⟩

/-! ### calls of the def's own kin -/
abbrev DSp := List Dt → (Dt → Prop) → Prop
def spD (b : Option Addr) (m : Nat) (T : DSp) : Sp := fun vs H Q _ => ∃ (F : Hp) (ds : List Dt) (P : Dt → Prop), Ok b F H ∧ RepL b F vs ds ∧ ds.length = m ∧ T ds P ∧ ∀ v d F' H', Ext b F H F' H' → Rep b F' v d → P d → Q v H'
@[reducible] def dCall (m : Nat) (T : DSp) (Ta : DAt) : DT := fun γ P => Ta γ fun ds => ds.length = m ∧ T ds P
theorem x_call {CX : CXT} {k : Nat} {f : Addr} {fd : FuncData} {ps : List Str} {x : Str} {p : Pos} {m : Nat} {T : DSp} {Ta : DAt} (F : FnOk X.prog X.w X.K X.mg X.base CX0 k f fd ps (spD b m T)) (hr : Room k X.A) (hg : Gl X x) (hm : X.mg x = some (.ref f)) (hk : PySem.W.keepIn X.K (.ref f) = true) (hb : Binds X.K fd ps [])
    (ha : XA X b (e :: es) Ta) (hdb : (x == ("__debug__" : Str)) = false := by decide) (he : starEach (e :: es) X.env = (false, eval e X.env) :: starEach es X.env := by rfl) (hpl : (backTo pos (starEach es X.env)).any (·.1) = false := by rfl) : XE X b (.Call (.Name x p) (e :: es) [] pos) (dCall m T Ta) := by
  obtain ⟨_, h1, h2⟩ := ha
  refine ⟨_, pe_call F hr hg hm hk hb .nil pass0 h1 hdb he hpl, fun P n t Q q => h2 _ n t _ fun vs ds F1 H1 x1 r1 t1 => ?_⟩
  show spD b m T (vs ++ []) H1 Q _
  rw [List.append_nil]
  exact ⟨F1, ds, P, x1.ok, r1, t1.1, t1.2, fun v d F' H' x r p1 => q v d F' H' (x1.trans x) r p1⟩
@[reducible] def dCallK (m : Nat) (T : DSp) (g : List Dt → List Dt → List Dt) (Ta Tk : DAt) : DT := fun γ P => Ta γ fun ds => Tk γ fun es => (g ds es).length = m ∧ T (g ds es) P
theorem x_callK {k : Nat} {f : Addr} {fd : FuncData} {ps ks : List Str} {x : Str} {p : Pos} {m : Nat} {T : DSp} {Ta Tk : DAt} {kws : List Keyword} {g : List Value → List Value → List Value} {gV : List V → List V → List V} {gD : List Dt → List Dt → List Dt}
    (F : FnOk X.prog X.w X.K X.mg X.base CX0 k f fd ps (spD b m T)) (hr : Room k X.A) (hg : Gl X x) (hm : X.mg x = some (.ref f)) (hk : PySem.W.keepIn X.K (.ref f) = true) (hb : KBinds X.K fd ps ks g gV) (hgd : ∀ {F : Hp} {vs zs : List V} {ds es : List Dt}, RepL b F vs ds → RepL b F zs es → RepL b F (gV vs zs) (gD ds es))
    (ha : XA X b (e :: es) Ta) (hkw : XKw X b kws Tk) (hall : (backToKw pos (keywordEach kws X.env)).all (·.1.isSome) = true := by rfl) (hks : (backToKw pos (keywordEach kws X.env)).filterMap (·.1) = ks := by rfl)
    (hdb : (x == ("__debug__" : Str)) = false := by decide) (he : starEach (e :: es) X.env = (false, eval e X.env) :: starEach es X.env := by rfl)
    (hpl : ((backTo pos (starEach (e :: es) X.env)).any (·.1) || (backToKw pos (keywordEach kws X.env)).any (·.1.isNone)) = false := by rfl) : XE X b (.Call (.Name x p) (e :: es) kws pos) (dCallK m T gD Ta Tk) := by
  obtain ⟨_, h1, h2⟩ := ha; obtain ⟨_, g1, g2⟩ := hkw
  refine ⟨_, pe_callK (E := E0) F hr hg hm hk hb pass0 h1 g1 hall hks hdb he hpl, fun P n t Q q => h2 _ n t _ fun vs ds F1 H1 x1 r1 t1 => g2 _ (n.to x1) t1 _ fun zs es F2 H2 x2 r2 t2 => ?_⟩
  exact ⟨F2, _, P, x2.ok, hgd (r1.mono x2.grow) r2, t2.1, t2.2, fun v d F' H' x r p1 => q v d F' H' ((x1.trans x2).trans x) r p1⟩
/-- f(k = v, ..) -/
theorem pe_callK0 {CX : CXT} {k : Nat} {f : Addr} {fd : FuncData} {ps ks : List Str} {sp : Sp} {E : L2.XK} {x : Str} {p : Pos} {kws : List Keyword} {tk : TA} {g : List Value → List Value → List Value} {gV : List V → List V → List V}
    (F : FnOk X.prog X.w X.K X.mg X.base CX k f fd ps sp) (hr : Room k X.A) (hg : Gl X x) (hm : X.mg x = some (.ref f)) (hk : PySem.W.keepIn X.K (.ref f) = true) (hb : KBinds X.K fd ps ks g gV) (hx : Passes CX X E)
    (hkw : PK X kws tk) (hall : (backToKw pos (keywordEach kws X.env)).all (·.1.isSome) = true := by rfl) (hks : (backToKw pos (keywordEach kws X.env)).filterMap (·.1) = ks := by rfl)
    (hdb : (x == ("__debug__" : Str)) = false := by decide) (hpl : ((backTo pos (starEach [] X.env)).any (·.1) || (backToKw pos (keywordEach kws X.env)).any (·.1.isNone)) = false := by rfl) : PE X (.Call (.Name x p) [] kws pos) (fun σ H Q => tk σ H fun zs H2 => sp (gV [] zs) H2 Q E) := by
  refine ⟨fun pins s σ H Q I h => ?_⟩
  refine wpAny_Call_Name_kw (ld_glob I hg hm ?_ hdb)
  refine PySem.W.callWith_KW0 (h₀ := X.base) I.ok.mod.kin hk hall ?_ hpl
  refine thn (hkw.run pos pins s σ H _ I h) fun ws s2 ⟨zs, H2, I2, rz, q2⟩ => ⟨I2.kIn, ?_⟩
  rw [hks]
  exact run_fnk F hr hb hx I2 .nil rz q2
theorem x_callK0 {k : Nat} {f : Addr} {fd : FuncData} {ps ks : List Str} {x : Str} {p : Pos} {m : Nat} {T : DSp} {Tk : DAt} {kws : List Keyword} {g : List Value → List Value → List Value} {gV : List V → List V → List V} {gD : List Dt → List Dt → List Dt}
    (F : FnOk X.prog X.w X.K X.mg X.base CX0 k f fd ps (spD b m T)) (hr : Room k X.A) (hg : Gl X x) (hm : X.mg x = some (.ref f)) (hk : PySem.W.keepIn X.K (.ref f) = true) (hb : KBinds X.K fd ps ks g gV) (hgd : ∀ {F : Hp} {vs zs : List V} {ds es : List Dt}, RepL b F vs ds → RepL b F zs es → RepL b F (gV vs zs) (gD ds es))
    (hkw : XKw X b kws Tk) (hall : (backToKw pos (keywordEach kws X.env)).all (·.1.isSome) = true := by rfl) (hks : (backToKw pos (keywordEach kws X.env)).filterMap (·.1) = ks := by rfl)
    (hdb : (x == ("__debug__" : Str)) = false := by decide) (hpl : ((backTo pos (starEach [] X.env)).any (·.1) || (backToKw pos (keywordEach kws X.env)).any (·.1.isNone)) = false := by rfl) : XE X b (.Call (.Name x p) [] kws pos) (dCallK m T gD aNil Tk) := by
  obtain ⟨_, g1, g2⟩ := hkw
  refine ⟨_, pe_callK0 (E := E0) F hr hg hm hk hb pass0 g1 hall hks hdb hpl, fun P n t Q q => g2 _ n t _ fun zs es F2 H2 x2 r2 t2 => ?_⟩
  exact ⟨F2, _, P, x2.ok, hgd .nil r2, t2.1, t2.2, fun v d F' H' x r p1 => q v d F' H' (x2.trans x) r p1⟩

/-! ### built-in functions by values -/
def DCr (b : Option Addr) (r : List V → Hp → VK → Prop) (T : DSp) : Prop := ∀ {F H : Hp} {vs : List V} {ds : List Dt} (P : Dt → Prop), Ok b F H → RepL b F vs ds → T ds P → ∀ Q : VK, (∀ v d F' H', Ext b F H F' H' → Rep b F' v d → P d → Q v H') → r vs H Q
@[reducible] def dBi (T : DSp) (Ta : DAt) : DT := fun γ P => Ta γ fun ds => T ds P
theorem de_cb {r : List V → Hp → VK → Prop} {T : DSp} {ta : TA} {Ta : DAt} (h : DCr b r T) (ha : DA b ta Ta) : DE b (tCB r ta) (dBi T Ta) := fun P n t Q q => ha _ n t _ fun vs ds F1 H1 x1 r1 t1 =>
  h P x1.ok r1 t1 Q fun v d F' H' x r p1 => q v d F' H' (x1.trans x) r p1
@[reducible] def bLen : DSp := fun ds P => match ds with
  | [.str z] => z.length ≤ 100000 ∧ P (.int z.length)
  | [.lst xs] => P (.int xs.length)
  | [.tup xs] => P (.int xs.length)
  | _ => False
theorem dcr_len {K : PySem.W.Frag} : DCr b (fun xs H Q => ∃ x n, xs = [x] ∧ LenV K x H n ∧ Q (.int n) H) bLen := fun {F H vs ds} P k r t Q q => by
  cases r with
  | nil => exact t.elim
  | cons r1 r2 =>
    cases r2 with
    | cons _ _ => cases r1 <;> exact t.elim
    | nil =>
      cases r1 with
      | str z => exact ⟨_, _, rfl, ⟨Nat.le_trans t.1 (by decide), rfl⟩, q _ _ F H (Ext.refl k) (.int _) t.2⟩
      | lst h r => exact ⟨_, _, rfl, .inl ⟨_, SqL.of (k.1 _ _ h), rfl⟩, q _ _ F H (Ext.refl k) (.int _) (by rw [r.length]; exact t)⟩
      | tup h r => exact ⟨_, _, rfl, .inr ⟨_, SqT.of (k.1 _ _ h), rfl⟩, q _ _ F H (Ext.refl k) (.int _) (by rw [r.length]; exact t)⟩
      | _ => exact t.elim
theorem x_len {p : Pos} (hg : Gl X "len") (hm : X.mg "len" = none) (ha : XA X b [e] Ta) (he : starEach [e] X.env = (false, eval e X.env) :: starEach [] X.env := by rfl) (hpl : (backTo pos (starEach [] X.env)).any (·.1) = false := by rfl) : XE X b (.Call (.Name "len" p) [e] [] pos) (dBi bLen Ta) := by
  obtain ⟨_, h1, h2⟩ := ha
  exact ⟨_, pe_callB call_len hg hm PySem.boot_len h1 (he := he) (hpl := hpl), de_cb dcr_len h2⟩
@[reducible] def bInt : DSp := fun ds P => match ds with
  | [.int i] => P (.int i)
  | [.bl k] => P (.int (if k then 1 else 0))
  | _ => False
theorem x_intOf {p : Pos} (hg : Gl X "int") (hm : X.mg "int" = none) (ha : XA X b [e] Ta) (he : starEach [e] X.env = (false, eval e X.env) :: starEach [] X.env := by rfl) (hpl : (backTo pos (starEach [] X.env)).any (·.1) = false := by rfl) : XE X b (.Call (.Name "int" p) [e] [] pos) (dBi bInt Ta) := by
  obtain ⟨_, h1, h2⟩ := ha
  refine ⟨_, pe_callTy call_int1 hg hm (by decide +kernel) h1 (he := he) (hpl := hpl), de_cb (fun {F H vs ds} P k r t Q q => ?_) h2⟩
  cases r with
  | nil => exact t.elim
  | cons r1 r2 =>
    cases r2 with
    | cons _ _ => cases r1 <;> exact t.elim
    | nil =>
      cases r1 with
      | int i => exact .inl ⟨_, rfl, q _ _ F H (Ext.refl k) (.int _) t⟩
      | bl i => exact .inr ⟨_, rfl, q _ _ F H (Ext.refl k) (.int _) t⟩
      | _ => exact t.elim
theorem repL_ints {F : Hp} : ∀ {ns : List Int} {vs : List V}, RepL b F vs (ns.map Dt.int) → vs = ns.map V.int
  | [], _, h => by cases h; rfl
  | n :: ns, _, h => by
    cases h with
    | cons r t => cases r; rw [repL_ints t] <;> rfl
theorem repL_bls {F : Hp} : ∀ {ns : List Bool} {vs : List V}, RepL b F vs (ns.map Dt.bl) → vs = ns.map V.bl
  | [], _, h => by cases h; rfl
  | n :: ns, _, h => by
    cases h with
    | cons r t => cases r; rw [repL_bls t] <;> rfl
theorem repL_strs {F : Hp} : ∀ {ns : List Str} {vs : List V}, RepL b F vs (ns.map Dt.str) → vs = ns.map V.str
  | [], _, h => by cases h; rfl
  | n :: ns, _, h => by
    cases h with
    | cons r t => cases r; rw [repL_strs t] <;> rfl
@[reducible] def bSum : DSp := fun ds P => ∃ ns : List Int, ds = [.lst (ns.map Dt.int)] ∧ P (.int ns.sum)
theorem x_sum {p : Pos} (hc : X.calm = true) (hg : Gl X "sum") (hm : X.mg "sum" = none) (ha : XA X b [e] Ta) (he : starEach [e] X.env = (false, eval e X.env) :: starEach [] X.env := by rfl) (hpl : (backTo pos (starEach [] X.env)).any (·.1) = false := by rfl) : XE X b (.Call (.Name "sum" p) [e] [] pos) (dBi bSum Ta) := by
  obtain ⟨_, h1, h2⟩ := ha
  refine ⟨_, pe_callB (cr_sum hc) hg hm (by decide +kernel) h1 (he := he) (hpl := hpl), de_cb (fun {F H vs ds} P k r t Q q => ?_) h2⟩
  obtain ⟨ns, rfl, t⟩ := t
  cases r with
  | cons r1 r2 =>
    cases r2
    cases r1 with
    | lst h r =>
      cases repL_ints r
      exact ⟨_, ns, rfl, SqL.of (k.1 _ _ h), q _ _ F H (Ext.refl k) (.int _) t⟩
@[reducible] def bAll : DSp := fun ds P => ∃ ns : List Bool, ds = [.lst (ns.map Dt.bl)] ∧ P (.bl (ns.all id))
theorem x_all {p : Pos} (hc : X.calm = true) (hg : Gl X "all") (hm : X.mg "all" = none) (ha : XA X b [e] Ta) (he : starEach [e] X.env = (false, eval e X.env) :: starEach [] X.env := by rfl) (hpl : (backTo pos (starEach [] X.env)).any (·.1) = false := by rfl) : XE X b (.Call (.Name "all" p) [e] [] pos) (dBi bAll Ta) := by
  obtain ⟨_, h1, h2⟩ := ha
  refine ⟨_, pe_callB (cr_all hc) hg hm (by decide +kernel) h1 (he := he) (hpl := hpl), de_cb (fun {F H vs ds} P k r t Q q => ?_) h2⟩
  obtain ⟨ns, rfl, t⟩ := t
  cases r with
  | cons r1 r2 =>
    cases r2
    cases r1 with
    | lst h r =>
      cases repL_bls r
      exact ⟨_, ns, rfl, SqL.of (k.1 _ _ h), q _ _ F H (Ext.refl k) (.bl _) t⟩
@[reducible] def bAny : DSp := fun ds P => ∃ ns : List Bool, ds = [.lst (ns.map Dt.bl)] ∧ P (.bl (ns.any id))
theorem x_any {p : Pos} (hc : X.calm = true) (hg : Gl X "any") (hm : X.mg "any" = none) (ha : XA X b [e] Ta) (he : starEach [e] X.env = (false, eval e X.env) :: starEach [] X.env := by rfl) (hpl : (backTo pos (starEach [] X.env)).any (·.1) = false := by rfl) : XE X b (.Call (.Name "any" p) [e] [] pos) (dBi bAny Ta) := by
  obtain ⟨_, h1, h2⟩ := ha
  refine ⟨_, pe_callB (cr_any hc) hg hm (by decide +kernel) h1 (he := he) (hpl := hpl), de_cb (fun {F H vs ds} P k r t Q q => ?_) h2⟩
  obtain ⟨ns, rfl, t⟩ := t
  cases r with
  | cons r1 r2 =>
    cases r2
    cases r1 with
    | lst h r =>
      cases repL_bls r
      exact ⟨_, ns, rfl, SqL.of (k.1 _ _ h), q _ _ F H (Ext.refl k) (.bl _) t⟩
@[reducible] def bTuple : DSp := fun ds P => match ds with
  | [.lst xs] => P (.tup xs)
  | [.tup xs] => P (.tup xs)
  | _ => False
theorem x_tupleOf {p : Pos} (hg : Gl X "tuple") (hm : X.mg "tuple" = none) (ha : XA X b [e] Ta) (he : starEach [e] X.env = (false, eval e X.env) :: starEach [] X.env := by rfl) (hpl : (backTo pos (starEach [] X.env)).any (·.1) = false := by rfl) : XE X b (.Call (.Name "tuple" p) [e] [] pos) (dBi bTuple Ta) := by
  obtain ⟨_, h1, h2⟩ := ha
  refine ⟨_, pe_callTy call_tuple_of hg hm (by decide +kernel) h1 (he := he) (hpl := hpl), de_cb (fun {F H vs ds} P k r t Q q => ?_) h2⟩
  cases r with
  | nil => exact t.elim
  | cons r1 r2 =>
    cases r2 with
    | cons _ _ => cases r1 <;> exact t.elim
    | nil =>
      cases r1 with
      | lst h r => exact ⟨_, _, rfl, .inl ⟨SqL.of (k.1 _ _ h), fun l hl => q _ _ _ _ (Ext.push k hl) (.tup upd_same (r.mono (Ext.push k hl).grow)) t⟩⟩
      | tup h r => exact ⟨_, _, rfl, .inr ⟨SqT.of (k.1 _ _ h), q _ _ F H (Ext.refl k) (.tup h r) t⟩⟩
      | _ => exact t.elim
@[reducible] def bList (ds : List Dt) (P : List Dt → Prop) : Prop := match ds with
  | [.lst xs] => P xs
  | [.tup xs] => P xs
  | _ => False
theorem l_listOf {p : Pos} (hg : Gl X "list") (hm : X.mg "list" = none) (ha : XA X b [e] Ta) (he : starEach [e] X.env = (false, eval e X.env) :: starEach [] X.env := by rfl) (hpl : (backTo pos (starEach [] X.env)).any (·.1) = false := by rfl) : XL X b (.Call (.Name "list" p) [e] [] pos) (fun γ P => Ta γ fun ds => bList ds P) := by
  obtain ⟨_, h1, h2⟩ := ha
  refine ⟨_, pe_callTy call_list_of hg hm (by decide +kernel) h1 (he := he) (hpl := hpl), fun P n t Q q => h2 _ n t _ fun vs ds F1 H1 x1 r t => ?_⟩
  cases r with
  | nil => exact t.elim
  | cons r1 r2 =>
    cases r2 with
    | cons _ _ => cases r1 <;> exact t.elim
    | nil =>
      cases r1 with
      | lst h r => exact ⟨_, _, rfl, .inl (SqL.of (x1.sub _ _ h)), fun l hl => q l _ _ F1 _ (x1.trans (Ext.laid x1.ok hl)) (x1.back n.ok hl) upd_same (x1.ok.fF hl) r t⟩
      | tup h r => exact ⟨_, _, rfl, .inr (SqT.of (x1.sub _ _ h)), fun l hl => q l _ _ F1 _ (x1.trans (Ext.laid x1.ok hl)) (x1.back n.ok hl) upd_same (x1.ok.fF hl) r t⟩
      | _ => exact t.elim

/-! ### isinstance of built-in types -/
def tyN : Dt → String
  | .non => "NoneType" | .bl _ => "bool" | .int _ => "int" | .str _ => "str" | .lst _ => "list" | .tup _ => "tuple" | .dT _ => "dict" | _ => "?"
def isTy (d : Dt) (n : String) : Option Bool := kitB (tyN d) n
theorem ty_of {F H : Hp} {K : PySem.W.Frag} {v : V} {d : Dt} (s : Sub F H) (r : Rep b F v d) (h : tyN d ≠ "?") : TyX K H v (.type (tyN d)) := by
  cases r with
  | non => exact .base .non
  | bl k => exact .base (.bl k)
  | int k => exact .base (.int k)
  | str k => exact .base (.str k)
  | lst e r => exact .base (.lst (s _ _ e))
  | tup e r => exact .base (.tup (s _ _ e))
  | dT e r => exact .base (.dT (s _ _ e))
  | ins e r => exact (h rfl).elim
  | bag e => exact (h rfl).elim
inductive Tk where
  | kint | kbool | kstr | klist | ktuple
def tkS : Tk → String
  | .kint => "int" | .kbool => "bool" | .kstr => "str" | .klist => "list" | .ktuple => "tuple"
@[reducible] def isB : Tk → Dt → Bool
  | .kint, .bl _ => true
  | .kint, .int _ => true
  | .kbool, .bl _ => true
  | .kstr, .str _ => true
  | .klist, .lst _ => true
  | .ktuple, .tup _ => true
  | _, _ => false
def KitOk (n : Tk) : Prop := ∀ d, tyN d ≠ "?" → kitB (tyN d) (tkS n) = some (isB n d)
theorem kitOk_by {n : Tk} (h0 : kitB "NoneType" (tkS n) = some (isB n .non)) (h1 : kitB "bool" (tkS n) = some (isB n (.bl true))) (h2 : kitB "int" (tkS n) = some (isB n (.int 0))) (h3 : kitB "str" (tkS n) = some (isB n (.str Str.empty)))
    (h4 : kitB "list" (tkS n) = some (isB n (.lst []))) (h5 : kitB "tuple" (tkS n) = some (isB n (.tup []))) (h6 : kitB "dict" (tkS n) = some (isB n (.dT []))) : KitOk n
  | .non, _ => h0
  | .bl k, _ => h1.trans (congrArg some (show isB n (.bl true) = isB n (.bl k) by cases n <;> rfl))
  | .int k, _ => h2.trans (congrArg some (show isB n (.int 0) = isB n (.int k) by cases n <;> rfl))
  | .str k, _ => h3.trans (congrArg some (show isB n (.str Str.empty) = isB n (.str k) by cases n <;> rfl))
  | .lst k, _ => h4.trans (congrArg some (show isB n (.lst []) = isB n (.lst k) by cases n <;> rfl))
  | .tup k, _ => h5.trans (congrArg some (show isB n (.tup []) = isB n (.tup k) by cases n <;> rfl))
  | .dT k, _ => h6.trans (congrArg some (show isB n (.dT []) = isB n (.dT k) by cases n <;> rfl))
  | .ins _ _, h => (h rfl).elim
  | .bag, h => (h rfl).elim
theorem kit_kint : KitOk .kint := kitOk_by (by decide +kernel) (by decide +kernel) (by decide +kernel) (by decide +kernel) (by decide +kernel) (by decide +kernel) (by decide +kernel) 
theorem kit_kbool : KitOk .kbool := kitOk_by (by decide +kernel) (by decide +kernel) (by decide +kernel) (by decide +kernel) (by decide +kernel) (by decide +kernel) (by decide +kernel) 
theorem kit_kstr : KitOk .kstr := kitOk_by (by decide +kernel) (by decide +kernel) (by decide +kernel) (by decide +kernel) (by decide +kernel) (by decide +kernel) (by decide +kernel) 
theorem kit_klist : KitOk .klist := kitOk_by (by decide +kernel) (by decide +kernel) (by decide +kernel) (by decide +kernel) (by decide +kernel) (by decide +kernel) (by decide +kernel) 
theorem kit_ktuple : KitOk .ktuple := kitOk_by (by decide +kernel) (by decide +kernel) (by decide +kernel) (by decide +kernel) (by decide +kernel) (by decide +kernel) (by decide +kernel) 
@[reducible] def known : Dt → Bool
  | .ins _ _ => false | .bag => false | _ => true
theorem known_ty : ∀ {d : Dt}, known d = true → tyN d ≠ "?"
  | .non, _ => show "NoneType" ≠ "?" by decide
  | .bl _, _ => show "bool" ≠ "?" by decide
  | .int _, _ => show "int" ≠ "?" by decide
  | .str _, _ => show "str" ≠ "?" by decide
  | .lst _, _ => show "list" ≠ "?" by decide
  | .tup _, _ => show "tuple" ≠ "?" by decide
  | .dT _, _ => show "dict" ≠ "?" by decide
@[reducible] def dIsi1 (n : Tk) (Ta : DT) : DT := fun γ P => Ta γ fun x => known x = true ∧ P (.bl (isB n x))
@[reducible] def dIsi (n1 n2 : Tk) (Ta : DT) : DT := fun γ P => Ta γ fun x => known x = true ∧ P (.bl (oB (isB n1 x) (isB n2 x)))
theorem x_isi1 {p q : Pos} {c : Str} {n : Tk} (hk : KitOk n) (hg : Gl X "isinstance") (hm : X.mg "isinstance" = none) (hgc : Gl X c) (hmc : X.mg c = none) (hv : bootBuiltins c = some (.type (tkS n))) (ha : XE X b e Ta) (hn : c ≠ "__name__" := by decide) (hd : (c == ("__debug__" : Str)) = false := by decide)
    (he : starEach [e, .Name c q] X.env = (false, eval e X.env) :: starEach [.Name c q] X.env := by rfl) (hpl : (backTo pos (starEach [.Name c q] X.env)).any (·.1) = false := by rfl) (he2 : starEach [.Name c q] X.env = (false, eval (.Name c q) X.env) :: starEach [] X.env := by rfl) : XE X b (.Call (.Name "isinstance" p) [e, .Name c q] [] pos) (dIsi1 n Ta) := by
  obtain ⟨_, h1, h2⟩ := ha
  refine ⟨_, pe_callB call_isi hg hm (by decide +kernel) (pa_cons h1 (pa_cons (pe_bltn (v := .ty (tkS n)) hgc hmc hv rfl hn hd) pa_nil he2) he) (he := he) (hpl := hpl), fun P n t Q q => h2 _ n t _ fun v d F1 H1 x1 r1 t1 => ?_⟩
  obtain ⟨hq, t1⟩ := t1
  exact ⟨_, _, _, _, _, rfl, .ty _, ty_of x1.sub r1 (known_ty hq), kit_ty (hk d (known_ty hq)), q _ _ F1 H1 x1 (.bl _) t1⟩
theorem x_isi2 {p q1 q2 q3 : Pos} {c1 c2 : Str} {n1 n2 : Tk} {x1} (hk1 : KitOk n1) (hk2 : KitOk n2) (hg : Gl X "isinstance") (hm : X.mg "isinstance" = none) (hg1 : Gl X c1) (hm1 : X.mg c1 = none) (hv1 : bootBuiltins c1 = some (.type (tkS n1))) (hg2 : Gl X c2) (hm2 : X.mg c2 = none) (hv2 : bootBuiltins c2 = some (.type (tkS n2))) (ha : XE X b e Ta)
    (hn1 : c1 ≠ "__name__" := by decide) (hd1 : (c1 == ("__debug__" : Str)) = false := by decide) (hn2 : c2 ≠ "__name__" := by decide) (hd2 : (c2 == ("__debug__" : Str)) = false := by decide)
    (he : starEach [e, .Tuple [.Name c1 q1, .Name c2 q2] x1 q3] X.env = (false, eval e X.env) :: starEach [.Tuple [.Name c1 q1, .Name c2 q2] x1 q3] X.env := by rfl) (hpl : (backTo pos (starEach [.Tuple [.Name c1 q1, .Name c2 q2] x1 q3] X.env)).any (·.1) = false := by rfl)
    (he2 : starEach [.Tuple [.Name c1 q1, .Name c2 q2] x1 q3] X.env = (false, eval (.Tuple [.Name c1 q1, .Name c2 q2] x1 q3) X.env) :: starEach [] X.env := by rfl) (he3 : starEach [.Name c1 q1, .Name c2 q2] X.env = (false, eval (.Name c1 q1) X.env) :: starEach [.Name c2 q2] X.env := by rfl) (he4 : starEach [.Name c2 q2] X.env = (false, eval (.Name c2 q2) X.env) :: starEach [] X.env := by rfl) :
    XE X b (.Call (.Name "isinstance" p) [e, .Tuple [.Name c1 q1, .Name c2 q2] x1 q3] [] pos) (dIsi n1 n2 Ta) := by
  obtain ⟨_, h1, h2⟩ := ha
  refine ⟨_, pe_callB call_isiT hg hm (by decide +kernel) (pa_cons h1 (pa_cons (pe_tup (pa_cons (pe_bltn (v := .ty (tkS n1)) hg1 hm1 hv1 rfl hn1 hd1) (pa_cons (pe_bltn (v := .ty (tkS n2)) hg2 hm2 hv2 rfl hn2 hd2) pa_nil he4) he3)) pa_nil he2) he) (he := he) (hpl := hpl), fun P n t Q q => h2 _ n t _ fun v d F1 H1 x1 r1 t1 => ?_⟩
  obtain ⟨hq, t1⟩ := t1
  refine ⟨by show 2 ≤ sizeLine; decide, fun p hp => ?_⟩
  have x2 := Ext.laid (o := .tup [.ty (tkS n1), .ty (tkS n2)]) x1.ok hp
  refine ⟨_, _, _, _, _, _, rfl, upd_same, .cons (.ty _) (.cons (.ty _) .nil), ty_of x2.sub r1 (known_ty hq), kitAny_cons (kit_ty (hk1 d (known_ty hq))) (fun h => kitAny_cons (kit_ty (hk2 d (known_ty hq))) (fun h' => ?_) (fun h' => ?_)) (fun h => ?_), q _ _ F1 _ (x1.trans x2) (.bl _) t1⟩
  · rw [h, h']; exact kitAny_nil
  · rw [h, h']
  · rw [h]

/-! ### items, slices, join, + -/
@[reducible] def vIx (x y : Dt) (P : Dt → Prop) : Prop := match x, y with
  | .lst xs, .int i => ∃ v, atI xs i = some v ∧ P v
  | .tup xs, .int i => ∃ v, atI xs i = some v ∧ P v
  | .str z, .int i => z.length ≤ 100000 ∧ ∃ c, atI z.cps.toList i = some c ∧ P (.str ⟨#[c]⟩)
  | _, _ => False
theorem atI_rep {F : Hp} {vs : List V} {xs : List Dt} {i : Int} {d : Dt} (r : RepL b F vs xs) (h : atI xs i = some d) : ∃ v, atI vs i = some v ∧ Rep b F v d := by
  unfold atI at h ⊢
  rw [r.length]
  cases e : ixN xs.length i with
  | none => rw [e] at h; cases h
  | some j =>
    rw [e] at h
    exact r.get' h
theorem d2_ix {K : PySem.W.Frag} : D2 b (rIx K) vIx := fun {F H x y d e} P k r1 r2 t Q q => by
  cases r1 with
  | lst h r =>
    cases r2 <;> first | exact t.elim | skip
    obtain ⟨v, t1, t2⟩ := t
    obtain ⟨u, a1, a2⟩ := atI_rep r t1
    exact .inl ⟨_, _, _, _, rfl, rfl, SqL.of (k.1 _ _ h), a1, q _ _ F H (Ext.refl k) a2 t2⟩
  | tup h r =>
    cases r2 <;> first | exact t.elim | skip
    obtain ⟨v, t1, t2⟩ := t
    obtain ⟨u, a1, a2⟩ := atI_rep r t1
    exact .inr (.inl ⟨_, _, _, _, rfl, rfl, SqT.of (k.1 _ _ h), a1, q _ _ F H (Ext.refl k) a2 t2⟩)
  | str z =>
    cases r2 <;> first | exact t.elim | skip
    obtain ⟨t0, v, t1, t2⟩ := t
    exact .inr (.inr ⟨_, _, _, rfl, rfl, Nat.le_trans t0 (by decide), t1, q _ _ F H (Ext.refl k) (.str _) t2⟩)
  | _ => cases r2 <;> exact t.elim
theorem x_ix (ha : XE X b e1 Ta) (hb : XE X b e2 Tb) (hs : PlainIx e2 := by exact fun _ _ => rfl) : XE X b (.Subscript e1 e2 pos) (d2 vIx Ta Tb) := by
  obtain ⟨_, h1, h2⟩ := ha; obtain ⟨_, g1, g2⟩ := hb
  exact ⟨_, pe_ix ix_seq h1 g1 hs, de_op d2_ix h2 g2⟩
abbrev DOt := Gm → (Option Int → Prop) → Prop
structure XO (X : Cx) (b : Option Addr) (e : Option Expr) (T : DOt) : Prop where
  ex : ∃ te, PO X e te ∧ ∀ {Fm F0 H0 F H : Hp} {σ : L2.St} {γ : Gm} (P : Option Int → Prop), Nv b Fm F0 H0 F H σ γ → T γ P → ∀ Q : Option Int → Hp → Prop, (∀ o F' H', Ext b F H F' H' → P o → Q o H') → te σ H Q
theorem o_none : XO X b none (fun _ P => P none) := ⟨_, po_none, fun P n t Q q => q none _ _ (Ext.refl n.ok) t⟩
@[reducible] def oSome (Ta : DT) : DOt := fun γ P => Ta γ fun x => match x with | .int i => P (some i) | _ => False
theorem o_some (h : XE X b e Ta) : XO X b (some e) (oSome Ta) := by
  obtain ⟨_, h1, h2⟩ := h
  refine ⟨_, po_some h1, fun P n t Q q => h2 _ n t _ fun v d F1 H1 x1 r1 t1 => ?_⟩
  cases r1 <;> first | exact t1.elim | skip
  exact ⟨_, rfl, q _ F1 H1 x1 t1⟩
/-- a slice of a text -/
@[reducible] def dSlS (Ta : DT) (Tl Th : DOt) : DT := fun γ P => Ta γ fun x => Tl γ fun lo => Th γ fun hi => match x with | .str z => z.length ≤ 100000 ∧ P (.str (cutS z lo hi)) | _ => False
theorem x_slS {lo hi : Option Expr} {p2 : Pos} (ha : XE X b e Ta) (hl : XO X b lo Tl) (hh : XO X b hi Th) : XE X b (.Subscript e (.Slice lo hi none p2) pos) (dSlS Ta Tl Th) := by
  obtain ⟨_, h1, h2⟩ := ha; obtain ⟨_, g1, g2⟩ := hl; obtain ⟨_, f1, f2⟩ := hh
  refine ⟨_, pe_slice sl_str h1 g1 f1, fun P n t Q q => h2 _ n t _ fun v d F1 H1 x1 r1 t1 => g2 _ (n.to x1) t1 _ fun o F2 H2 x2 t2 => f2 _ (n.to (x1.trans x2)) t2 _ fun u F3 H3 x3 t3 => ?_⟩
  cases r1 <;> first | exact t3.elim | skip
  exact ⟨_, rfl, Nat.le_trans t3.1 (by decide), q _ _ F3 H3 ((x1.trans x2).trans x3) (.str _) t3.2⟩
def cutD (xs : List Dt) (lo hi : Option Int) : List Dt := (xs.drop (HT.sIx xs.length 0 lo)).take (HT.sIx xs.length xs.length hi - HT.sIx xs.length 0 lo)
theorem cut_rep {F : Hp} {vs : List V} {xs : List Dt} {lo hi : Option Int} (r : RepL b F vs xs) : RepL b F (cutV vs lo hi) (cutD xs lo hi) := by
  unfold cutV cutD
  rw [r.length]
  exact (r.drop _).take _
/-- a slice of a list, new -/
theorem l_sl {lo hi : Option Expr} {p2 : Pos} (ha : XE X b e Ta) (hl : XO X b lo Tl) (hh : XO X b hi Th) : XL X b (.Subscript e (.Slice lo hi none p2) pos) (fun γ P => Ta γ fun x => Tl γ fun lo => Th γ fun hi => match x with | .lst z => P (cutD z lo hi) | _ => False) := by
  obtain ⟨_, h1, h2⟩ := ha; obtain ⟨_, g1, g2⟩ := hl; obtain ⟨_, f1, f2⟩ := hh
  refine ⟨_, pe_slice sl_list h1 g1 f1, fun P n t Q q => h2 _ n t _ fun v d F1 H1 x1 r1 t1 => g2 _ (n.to x1) t1 _ fun o F2 H2 x2 t2 => f2 _ (n.to (x1.trans x2)) t2 _ fun u F3 H3 x3 t3 => ?_⟩
  cases r1 <;> first | exact t3.elim | skip
  rename_i hh r
  have x := (x1.trans x2).trans x3
  refine ⟨_, _, rfl, SqL.of (x.sub _ _ (x3.grow _ _ (x2.grow _ _ hh))), fun p hp => ?_⟩
  exact q p _ _ F3 _ (x.trans (Ext.laid x.ok hp)) (x.back n.ok hp) upd_same (x.ok.fF hp) (cut_rep (r.mono (x2.grow.trans x3.grow))) t3
@[reducible] def vJoin (a : Str) (x : Dt) (P : Dt → Prop) : Prop := ∃ ys : List Str, x = .lst (ys.map Dt.str) ∧ (ys.map (·.length)).sum + ys.length * a.length ≤ 100000 ∧ P (.str (Txt.join a ys))
theorem x_join {apos : Pos} {j : Nat} {p1 : Pos} {a : Str} (ha : XE X b e Ta) (hs : starEach [e] X.env = [(false, eval e X.env)] := by rfl) (hbase : attributeBase (.Constant (.str a) j p1) "join" X.env (eval (.Constant (.str a) j p1) X.env) = eval (.Constant (.str a) j p1) X.env := by rfl) (hline : (apos.endLine == pos.line) = true := by rfl) :
    XE X b (.Call (.Attribute (.Constant (.str a) j p1) "join" apos) [e] [] pos) (fun γ P => Ta γ fun x => vJoin a x P) := by
  obtain ⟨_, h1, h2⟩ := ha
  refine ⟨_, pe_join pe_str h1 hs hbase hline, fun P n t Q q => ⟨⟨_, rfl⟩, h2 _ n t _ fun v d F1 H1 x1 r1 t1 => ?_⟩⟩
  obtain ⟨ys, rfl, t2, t3⟩ := t1
  cases r1 with
  | lst h r =>
    cases repL_strs r
    exact ⟨_, _, ys, rfl, rfl, .inl (SqL.of (x1.sub _ _ h)), Nat.le_trans t2 (by decide), q _ _ F1 H1 x1 (.str _) t3⟩
@[reducible] def vAddS (x y : Dt) (P : Dt → Prop) : Prop := match x, y with | .str u, .str z => u.length + z.length ≤ 100000 ∧ P (.str (u ++ z)) | _, _ => False
theorem x_addS (ha : XE X b e1 Ta) (hb : XE X b e2 Tb) : XE X b (.BinOp e1 .Add e2 pos) (d2 vAddS Ta Tb) := by
  obtain ⟨_, h1, h2⟩ := ha; obtain ⟨_, g1, g2⟩ := hb
  refine ⟨_, pe_op op_add_str h1 g1, de_op (fun {F H x y d e} P k r1 r2 t Q q => ?_) h2 g2⟩
  cases r1 <;> cases r2 <;> first | exact t.elim | skip
  exact ⟨_, _, rfl, rfl, Nat.le_trans t.1 (by decide), q _ _ F H (Ext.refl k) (.str _) t.2⟩
@[reducible] def vAddL (x y : Dt) (P : Dt → Prop) : Prop := match x, y with | .lst u, .lst z => u.length + z.length ≤ 100000 ∧ P (.lst (u ++ z)) | _, _ => False
theorem x_addL (ha : XE X b e1 Ta) (hb : XE X b e2 Tb) : XE X b (.BinOp e1 .Add e2 pos) (d2 vAddL Ta Tb) := by
  obtain ⟨_, h1, h2⟩ := ha; obtain ⟨_, g1, g2⟩ := hb
  refine ⟨_, pe_op op_cat h1 g1, de_op (fun {F H x y d e} P k r1 r2 t Q q => ?_) h2 g2⟩
  cases r1 <;> cases r2 <;> first | exact t.elim | skip
  rename_i h1 r1 _ _ _ h2 r2
  refine ⟨_, _, _, _, rfl, rfl, k.1 _ _ h1, k.1 _ _ h2, Nat.le_trans (by rw [r1.length, r2.length]; exact t.1) (by decide), fun p hp => ?_⟩
  exact q _ _ _ _ (Ext.push k hp) (.lst upd_same ((r1.append r2).mono (Ext.push k hp).grow)) t.2
@[reducible] def vRep (x y : Dt) (P : Dt → Prop) : Prop := match x, y with | .lst u, .int k => 0 ≤ k ∧ k ≤ 1000 ∧ u.length ≤ 10 ∧ P (.lst (List.replicate k.toNat u).flatten) | _, _ => False
theorem rep_rep {F : Hp} {vs : List V} {xs : List Dt} (r : RepL b F vs xs) : ∀ k : Nat, RepL b F (List.replicate k vs).flatten (List.replicate k xs).flatten
  | 0 => .nil
  | k + 1 => by
    rw [List.replicate_succ, List.replicate_succ, List.flatten_cons, List.flatten_cons]
    exact r.append (rep_rep r k)
theorem x_rep (ha : XE X b e1 Ta) (hb : XE X b e2 Tb) : XE X b (.BinOp e1 .Mult e2 pos) (d2 vRep Ta Tb) := by
  obtain ⟨_, h1, h2⟩ := ha; obtain ⟨_, g1, g2⟩ := hb
  refine ⟨_, pe_op op_rep h1 g1, de_op (fun {F H x y d e} P k r1 r2 t Q q => ?_) h2 g2⟩
  cases r1 <;> cases r2 <;> first | exact t.elim | skip
  rename_i h1 r1 j
  obtain ⟨t1, t2, t3, t4⟩ := t
  refine ⟨_, _, _, rfl, rfl, k.1 _ _ h1, by omega, by omega, ?_, fun p hp => ?_⟩
  · rw [r1.length, sizeLine_eq]
    have h5 : j.toNat ≤ 1000 := by omega
    exact Nat.le_trans (Nat.mul_le_mul t3 h5) (by decide)
  · exact q _ _ _ _ (Ext.push k hp) (.lst upd_same ((rep_rep r1 _).mono (Ext.push k hp).grow)) t4
end
end DL

namespace DL
open PySem PySem.Spec PyProof.Rows L2
open RZ (ItzT iZipA pi_zipA)
section
variable {X : Cx} {b : Option Addr} {e e1 e2 e3 tg : Expr} {es : List Expr} {pos : Pos} {K : PySem.W.Frag} {Fx : Hp}
/-! ### what is walked -/
theorem get_map_of {α : Type} {l : List α} {f : α → Dt} {i : Nat} {x : α} (h : l[i]? = some x) : (l.map f)[i]? = some (f x) := by rw [List.getElem?_map, h]; rfl
theorem walkd_list {a : Addr} {vs : List V} {xs : List Dt} (h : Fx a = some (.lst vs)) (r : RepL b Fx vs xs) : WalkD b (Itl K a) Fx xs := by
  refine ⟨_, by rw [← r.length]; exact (walk_list (K := K) (a := a) (xs := vs)).mono (fun H s => SqL.of (s _ _ h)) (fun i H x H' _ _ y => y), fun i H x H' hi y => ?_⟩
  obtain ⟨e, y⟩ := y
  obtain ⟨d, g1, g2⟩ := r.get y
  exact ⟨d, g1, .inl ⟨e, g2⟩⟩
theorem walkd_tup {a : Addr} {vs : List V} {xs : List Dt} (h : Fx a = some (.tup vs)) (r : RepL b Fx vs xs) : WalkD b (Itt K a) Fx xs := by
  refine ⟨_, by rw [← r.length]; exact (walk_tup (K := K) (a := a) (xs := vs)).mono (fun H s => SqT.of (s _ _ h)) (fun i H x H' _ _ y => y), fun i H x H' hi y => ?_⟩
  obtain ⟨e, y⟩ := y
  obtain ⟨d, g1, g2⟩ := r.get y
  exact ⟨d, g1, .inl ⟨e, g2⟩⟩
def rngD (lo : Int) (n : Nat) : List Dt := (List.range n).map fun i => .int (lo + (i : Nat))
theorem rngD_len (lo : Int) (n : Nat) : (rngD lo n).length = n := by unfold rngD; rw [List.length_map, List.length_range]
theorem rngD_get {lo : Int} {n i : Nat} (h : i < n) : (rngD lo n)[i]? = some (.int (lo + (i : Nat))) := get_map_of (f := fun i : Nat => Dt.int (lo + (i : Nat))) (by simp [h])
theorem rngD_at {lo : Int} {n i : Nat} {d : Dt} (h : (rngD lo n)[i]? = some d) : i < n ∧ d = .int (lo + (i : Nat)) := by
  have hi : i < n := by
    have := (List.getElem?_eq_some_iff.mp h).1
    rw [rngD_len] at this
    exact this
  rw [rngD_get hi] at h
  exact ⟨hi, (Option.some.inj h).symm⟩
theorem walkd_range {lo : Int} {n : Nat} : WalkD b (Itr lo n) Fx (rngD lo n) := by
  refine ⟨_, by rw [rngD_len]; exact (walk_range (lo := lo) (n := n)).mono (fun _ _ => trivial) (fun i H x H' _ _ y => y), fun i H x H' hi y => ?_⟩
  obtain ⟨e, y⟩ := y
  rw [rngD_len] at hi
  exact ⟨_, rngD_get hi, .inl ⟨e, by rw [y]; exact .int _⟩⟩
def sgD (z : Str) : List Dt := z.cps.toList.map fun c => .str ⟨#[c]⟩
theorem walkd_str {z : Str} : WalkD b (Its z) Fx (sgD z) := by
  have hl : (sgD z).length = z.cps.size := by unfold sgD; rw [List.length_map, Array.length_toList]
  refine ⟨_, by rw [hl]; exact (walk_str (z := z)).mono (fun _ _ => trivial) (fun i H x H' _ _ y => y), fun i H x H' hi y => ?_⟩
  obtain ⟨e, c, y1, y2⟩ := y
  refine ⟨.str ⟨#[c]⟩, ?_, .inl ⟨e, by rw [y2]; exact .str _⟩⟩
  unfold sgD
  exact get_map_of (f := fun c : Nat => Dt.str ⟨#[c]⟩) (by rw [Array.getElem?_toList]; exact y1)
theorem walk_zipT {a c : Addr} {xs ys : List V} {n : Nat} (hn : n = min xs.length ys.length) : Walk (ItzT K a c) n (fun H => SqT K H a xs ∧ SqT K H c ys) (YPair (fun i => xs[i]?) (fun i => ys[i]?)) := by
  subst hn
  refine ⟨fun i _ hi q => ?_, fun _ q => ⟨xs, ys, q.1, q.2, by omega⟩, fun i H v H' _ q y => ?_⟩
  · have h1 : i < xs.length := by omega
    have h2 : i < ys.length := by omega
    exact ⟨xs, ys, xs[i], ys[i], q.1, q.2, by simp [h1], by simp [h2]⟩
  · obtain ⟨T, x, z, h1, h2, h3, h4, h5⟩ := y
    exact ⟨T, x, z, h1, h2, h3, h4 xs q.1, h5 ys q.2⟩
def zipD (xs ys : List Dt) : List Dt := List.zipWith (fun x y => .tup [x, y]) xs ys
theorem zipD_len (xs ys : List Dt) : (zipD xs ys).length = min xs.length ys.length := List.length_zipWith
theorem zip_pair {vs ws : List V} {xs ys : List Dt} (r : RepL b Fx vs xs) (r2 : RepL b Fx ws ys) {i : Nat} {H : Hp} {x : V} {H' : Hp} (y : YPair (fun i => vs[i]?) (fun i => ws[i]?) i H x H') :
    ∃ d, (zipD xs ys)[i]? = some d ∧ ((H' = H ∧ Rep b Fx x d) ∨ ∃ T vs ds, x = .ref T ∧ H T = none ∧ H' = upd H T (.tup vs) ∧ RepL b Fx vs ds ∧ d = .tup ds) := by
  obtain ⟨T, u, z, h1, h2, h3, h4, h5⟩ := y
  obtain ⟨d, g1, g2⟩ := r.get h4
  obtain ⟨d', g1', g2'⟩ := r2.get h5
  refine ⟨.tup [d, d'], ?_, .inr ⟨T, [u, z], [d, d'], h1, h2, h3, .cons g2 (.cons g2' .nil), rfl⟩⟩
  unfold zipD
  rw [List.getElem?_zipWith, g1, g1'] <;> rfl
theorem walkd_zipL {a c : Addr} {vs ws : List V} {xs ys : List Dt} (h : Fx a = some (.lst vs)) (r : RepL b Fx vs xs) (h2 : Fx c = some (.lst ws)) (r2 : RepL b Fx ws ys) : WalkD b (Itz K a c) Fx (zipD xs ys) := by
  refine ⟨_, (walk_zip (K := K) (a := a) (b := c) (xs := vs) (ys := ws) (by rw [zipD_len, r.length, r2.length])).mono (fun H s => ⟨SqL.of (s _ _ h), SqL.of (s _ _ h2)⟩) (fun i H x H' _ _ y => y), fun i H x H' hi y => zip_pair r r2 y⟩
theorem walkd_zipT {a c : Addr} {vs ws : List V} {xs ys : List Dt} (h : Fx a = some (.tup vs)) (r : RepL b Fx vs xs) (h2 : Fx c = some (.tup ws)) (r2 : RepL b Fx ws ys) : WalkD b (ItzT K a c) Fx (zipD xs ys) := by
  refine ⟨_, (walk_zipT (K := K) (a := a) (c := c) (xs := vs) (ys := ws) (by rw [zipD_len, r.length, r2.length])).mono (fun H s => ⟨SqT.of (s _ _ h), SqT.of (s _ _ h2)⟩) (fun i H x H' _ _ y => y), fun i H x H' hi y => zip_pair r r2 y⟩
def enumD (xs : List Dt) : List Dt := xs.mapIdx fun i x => .tup [.int (i : Nat), x]
theorem walkd_enum {a : Addr} {vs : List V} {xs : List Dt} (h : Fx a = some (.lst vs)) (r : RepL b Fx vs xs) : WalkD b (Ite K a) Fx (enumD xs) := by
  have hl : (enumD xs).length = vs.length := by unfold enumD; rw [List.length_mapIdx, r.length]
  refine ⟨_, by rw [hl]; exact (walk_enum (K := K) (a := a) (xs := vs)).mono (fun H s => SqL.of (s _ _ h)) (fun i H x H' _ _ y => y), fun i H x H' hi y => ?_⟩
  obtain ⟨T, u, z, h1, h2, h3, h4, h5⟩ := y
  obtain ⟨d, g1, g2⟩ := r.get h5
  cases h4
  refine ⟨.tup [.int (i : Nat), d], ?_, .inr ⟨T, [.int (i : Nat), z], [.int (i : Nat), d], h1, h2, h3, .cons (.int _) (.cons g2 .nil), rfl⟩⟩
  unfold enumD
  rw [List.getElem?_mapIdx, g1] <;> rfl
@[reducible] def iL (Ta : DT) : DAt := fun γ P => Ta γ fun x => match x with | .lst xs => P xs | _ => False
@[reducible] def iT (Ta : DT) : DAt := fun γ P => Ta γ fun x => match x with | .tup xs => P xs | _ => False
@[reducible] def iS (Ta : DT) : DAt := fun γ P => Ta γ fun x => match x with | .str z => P (sgD z) | _ => False
theorem i_list (ha : XE X b e Ta) : XI X b tg e (iL Ta) := by
  obtain ⟨_, h1, h2⟩ := ha
  refine ⟨_, pi_list h1, fun P n t R q => h2 _ n t _ fun v d F1 H1 x1 r1 t1 => ?_⟩
  cases r1 <;> first | exact t1.elim | skip
  rename_i h r
  exact ⟨_, rfl, ⟨_, SqL.of (x1.sub _ _ h)⟩, q _ _ F1 H1 x1 (walkd_list h r) t1⟩
theorem i_tup (ha : XE X b e Ta) : XI X b tg e (iT Ta) := by
  obtain ⟨_, h1, h2⟩ := ha
  refine ⟨_, pi_tup h1, fun P n t R q => h2 _ n t _ fun v d F1 H1 x1 r1 t1 => ?_⟩
  cases r1 <;> first | exact t1.elim | skip
  rename_i h r
  exact ⟨_, rfl, ⟨_, SqT.of (x1.sub _ _ h)⟩, q _ _ F1 H1 x1 (walkd_tup h r) t1⟩
theorem i_str (ha : XE X b e Ta) : XI X b tg e (iS Ta) := by
  obtain ⟨_, h1, h2⟩ := ha
  refine ⟨_, pi_str h1, fun P n t R q => h2 _ n t _ fun v d F1 H1 x1 r1 t1 => ?_⟩
  cases r1 <;> first | exact t1.elim | skip
  exact ⟨_, rfl, q _ _ F1 H1 x1 walkd_str t1⟩
@[reducible] def iR1 (Ta : DAt) : DAt := fun γ P => Ta γ fun ds => match ds with | [.int j] => -100000 ≤ j ∧ j ≤ 100000 ∧ P (rngD 0 j.toNat) | _ => False
theorem i_rng1 {p : Pos} (hg : Gl X "range") (hm : X.mg "range" = none) (ha : XA X b [e] Ta) (hs : starEach [e] X.env = [(false, eval e X.env)] := by rfl) : XI X b tg (.Call (.Name "range" p) [e] [] pos) (iR1 Ta) := by
  obtain ⟨_, h1, h2⟩ := ha
  refine ⟨_, pi_range1 hg hm h1 hs, fun P n t R q => h2 _ n t _ fun vs ds F1 H1 x1 r1 t1 => ?_⟩
  cases r1 with
  | nil => exact t1.elim
  | cons ra rb =>
    cases rb with
    | cons _ _ => cases ra <;> exact t1.elim
    | nil =>
      cases ra <;> first | exact t1.elim | skip
      rename_i j
      obtain ⟨a1, a2, t1⟩ := t1
      exact ⟨j, rfl, by omega, by omega, q _ _ F1 H1 x1 walkd_range t1⟩
@[reducible] def iR2 (Ta : DAt) : DAt := fun γ P => Ta γ fun ds => match ds with | [.int i, .int j] => -100000 ≤ i ∧ i ≤ 100000 ∧ -100000 ≤ j ∧ j ≤ 100000 ∧ P (rngD i (j - i).toNat) | _ => False
theorem i_rng2 {p : Pos} (hg : Gl X "range") (hm : X.mg "range" = none) (ha : XA X b [e1, e2] Ta) (hs : starEach [e1, e2] X.env = [(false, eval e1 X.env), (false, eval e2 X.env)] := by rfl) (hs2 : starEach [e2] X.env = [(false, eval e2 X.env)] := by rfl) : XI X b tg (.Call (.Name "range" p) [e1, e2] [] pos) (iR2 Ta) := by
  obtain ⟨_, h1, h2⟩ := ha
  refine ⟨_, pi_range2 hg hm h1 hs hs2, fun P n t R q => h2 _ n t _ fun vs ds F1 H1 x1 r1 t1 => ?_⟩
  cases r1 with
  | nil => exact t1.elim
  | cons ra rb =>
    cases rb with
    | nil => cases ra <;> exact t1.elim
    | cons rb rc =>
      cases rc with
      | cons _ _ => cases ra <;> cases rb <;> exact t1.elim
      | nil =>
        cases ra <;> cases rb <;> first | exact t1.elim | skip
        obtain ⟨a1, a2, a3, a4, t1⟩ := t1
        exact ⟨_, _, rfl, ⟨by omega, by omega, by omega, by omega⟩, q _ _ F1 H1 x1 walkd_range t1⟩
@[reducible] def iZ (Ta : DAt) : DAt := fun γ P => Ta γ fun ds => match ds with | [.lst xs, .lst ys] => P (zipD xs ys) | [.tup xs, .tup ys] => P (zipD xs ys) | _ => False
theorem i_zip {elts : List Expr} {kk : Nat} {tpos p : Pos} (hg : Gl X "zip") (hm : X.mg "zip" = none) (ha : XA X b [e1, e2] Ta) (hs : starEach [e1, e2] X.env = (false, eval e1 X.env) :: starEach [e2] X.env := by rfl) (hpl : (backTo pos (starEach [e2] X.env)).any (·.1) = false := by rfl) :
    XI X b (.Tuple elts kk tpos) (.Call (.Name "zip" p) [e1, e2] [] pos) (iZ Ta) := by
  obtain ⟨_, h1, h2⟩ := ha
  refine ⟨_, pi_zipA hg hm h1 hs hpl, fun P n t R q => h2 _ n t _ fun vs ds F1 H1 x1 r1 t1 => ?_⟩
  cases r1 with
  | nil => exact t1.elim
  | cons ra rb =>
    cases rb with
    | nil => cases ra <;> exact t1.elim
    | cons rb rc =>
      cases rc with
      | cons _ _ => cases ra <;> cases rb <;> exact t1.elim
      | nil =>
        cases ra with
        | lst h r =>
          cases rb <;> first | exact t1.elim | skip
          rename_i h' r'
          exact ⟨_, _, _, _, rfl, .inl ⟨SqL.of (x1.sub _ _ h), SqL.of (x1.sub _ _ h'), q _ _ F1 H1 x1 (walkd_zipL h r h' r') t1⟩⟩
        | tup h r =>
          cases rb <;> first | exact t1.elim | skip
          rename_i h' r'
          exact ⟨_, _, _, _, rfl, .inr ⟨SqT.of (x1.sub _ _ h), SqT.of (x1.sub _ _ h'), q _ _ F1 H1 x1 (walkd_zipT h r h' r') t1⟩⟩
        | _ => cases rb <;> exact t1.elim
@[reducible] def iE (Ta : DAt) : DAt := fun γ P => Ta γ fun ds => match ds with | [.lst xs] => P (enumD xs) | _ => False
theorem i_enum {elts : List Expr} {kk : Nat} {tpos p : Pos} (hg : Gl X "enumerate") (hm : X.mg "enumerate" = none) (ha : XA X b [e] Ta) (hs : starEach [e] X.env = [(false, eval e X.env)] := by rfl) : XI X b (.Tuple elts kk tpos) (.Call (.Name "enumerate" p) [e] [] pos) (iE Ta) := by
  obtain ⟨_, h1, h2⟩ := ha
  refine ⟨_, pi_enum hg hm h1 hs, fun P n t R q => h2 _ n t _ fun vs ds F1 H1 x1 r1 t1 => ?_⟩
  cases r1 with
  | nil => exact t1.elim
  | cons ra rb =>
    cases rb with
    | cons _ _ => cases ra <;> exact t1.elim
    | nil =>
      cases ra <;> first | exact t1.elim | skip
      rename_i h r
      exact ⟨_, _, rfl, SqL.of (x1.sub _ _ h), q _ _ F1 H1 x1 (walkd_enum h r) t1⟩

/-! ### targets -/
@[reducible] def gN (i : Nat) : Dt → Gm → (Gm → Prop) → Prop := fun d γ P => P (gset γ i (.val d))
theorem dg_name {i : Nat} : DG b (gName i) (gN i) [i] := fun {Fm F0 H0 F H σ γ} P {v d} n r t Q q => q _ _ (n.set i r) List.length_set (fun j hj => by
  rw [List.getElem?_set_ne]
  exact fun e => hj (by rw [e]; exact List.mem_singleton.mpr rfl)) t
theorem g_name {i : Nat} {x : Str} (hN : X.N.Nodup) (hi : X.N[i]? = some x) (hx : Loc X.env.scope x) (hf : X.fn x = true ∨ X.env.scope.names.lookup x = some .local := by first | exact .inl rfl | exact .inr rfl | assumption) : XG X b (.Name x pos) (gN i) [i] := ⟨_, pg_name hN hi hx hf, dg_name⟩
@[reducible] def gsNil : List Dt → Gm → (Gm → Prop) → Prop := fun ds γ P => match ds with | [] => P γ | _ => False
@[reducible] def gsCons (t : Dt → Gm → (Gm → Prop) → Prop) (u : List Dt → Gm → (Gm → Prop) → Prop) : List Dt → Gm → (Gm → Prop) → Prop := fun ds γ P => match ds with | d :: r => t d γ fun γ' => u r γ' P | [] => False
theorem gs_nil : XGs X b [] gsNil [] := ⟨_, pgs_nil, fun {Fm F0 H0 F H σ γ} P {vs ds} n r t Q q => by
  cases r with
  | nil => exact ⟨rfl, q _ _ n rfl (fun _ _ => rfl) t⟩
  | cons _ _ => exact t.elim⟩
theorem gs_cons {js ks : List Nat} (h : XG X b e T js) (g : XGs X b es U ks) (hs : (assignEach (e :: es) X.env).map (·.2) = assign e X.env :: (assignEach es X.env).map (·.2) := by rfl) : XGs X b (e :: es) (gsCons T U) (js ++ ks) := by
  obtain ⟨_, h1, h2⟩ := h; obtain ⟨_, g1, g2⟩ := g
  refine ⟨_, pgs_cons h1 g1 hs, fun {Fm F0 H0 F H σ γ} P {vs ds} n r t Q q => ?_⟩
  cases r with
  | nil => exact t.elim
  | cons ra rb => exact ⟨_, _, rfl, h2 _ n ra t _ fun σ1 γ1 n1 l1 s1 t1 => g2 _ n1 rb t1 _ fun σ2 γ2 n2 l2 s2 t2 => q σ2 γ2 n2 (l2.trans l1) (fun i hi => by rw [s2 i fun z => hi (List.mem_append_right _ z), s1 i fun z => hi (List.mem_append_left _ z)]) t2⟩
@[reducible] def gTu (m : Nat) (U : List Dt → Gm → (Gm → Prop) → Prop) : Dt → Gm → (Gm → Prop) → Prop := fun d γ P => match d with | .tup xs => xs.length = m ∧ U xs γ P | _ => False
theorem g_tup {k : Nat} {js : List Nat} {m : Nat} (hc : X.calm = true) (h : XGs X b es U js) (hn : es.length = m := by rfl) (hp : ∀ {t : TGs}, PGs X es t → PG X (.Tuple es k pos) (gTup X.K m t)) : XG X b (.Tuple es k pos) (gTu m U) js := by
  obtain ⟨_, h1, h2⟩ := h
  refine ⟨_, hp h1, fun {Fm F0 H0 F H σ γ} P {v d} n r t Q q => ?_⟩
  cases r <;> first | exact t.elim | skip
  rename_i hh r
  exact ⟨_, _, rfl, SqT.of (n.ok.1 _ _ hh), by rw [r.length]; exact t.1, h2 _ n r t.2 _ q⟩
/-! ### comprehensions -/
/-- here a word of your own is wanted -/
def Word (p : Prop) : Prop := p
@[reducible] def dLc (TI : DAt) (Tg : Dt → Gm → (Gm → Prop) → Prop) (Tt : DBt) (Te : DT) (vs : List Nat) : DAt := fun γ P => TI γ fun xs => xs.length ≤ 100000 ∧ Word (∃ Iv : Nat → List Dt → Prop, Iv 0 [] ∧
  (∀ i d acc, xs[i]? = some d → acc.length ≤ i → Iv i acc → Tg d (gwipe γ vs) fun γ2 => Tt γ2 fun c => (match c with | true => Te γ2 fun y => Iv (i + 1) (acc ++ [y]) | false => Iv (i + 1) acc)) ∧ ∀ acc, acc.length ≤ xs.length → Iv xs.length acc → P acc)
theorem wipe_at (σ : L2.St) {j : Nat} : ∀ {js : List Nat}, j ∉ js → (wipe σ js)[j]? = σ[j]? := fun h => wipe_out h
theorem wipe_ext {σ σ2 : L2.St} {js : List Nat} (hl : σ2.length = σ.length) (h : ∀ i, i ∉ js → σ2[i]? = σ[i]?) : wipe σ2 js = wipe σ js := by
  apply List.ext_getElem?
  intro i
  by_cases hi : i ∈ js
  · have w : ∀ (τ : L2.St) (ks : List Nat), i ∈ ks → (wipe τ ks)[i]? = if i < τ.length then some none else none := fun τ ks => by
      induction ks with
      | nil => intro h; cases h
      | cons k r ih =>
        intro hk
        show ((wipe τ r).set k none)[i]? = _
        by_cases e : i = k
        · subst e
          by_cases z : i < τ.length
          · rw [if_pos z, List.getElem?_set_self (by rw [wipe_length]; exact z)]
          · rw [if_neg z, List.getElem?_eq_none (by rw [List.length_set, wipe_length]; omega)]
        · rw [List.getElem?_set_ne (Ne.symm e)]
          rcases List.mem_cons.mp hk with q | q
          · exact (e q).elim
          · exact ih q
    rw [w σ2 js hi, w σ js hi, hl]
  · rw [wipe_at σ2 hi, wipe_at σ hi, h i hi]
theorem Nv.wiped {Fm F0 H0 F H : Hp} {σ : L2.St} {γ : Gm} (n : Nv b Fm F0 H0 F H σ γ) (js : List Nat) : Nv b Fm F0 H0 F H (wipe σ js) (gwipe γ js) :=
  n.forget (wipe_length _ _) (gwipe_len _ _) fun i => by
    by_cases h : i ∈ js
    · exact .inl (gat_wiped γ h)
    · exact .inr ⟨gat_wipe γ h, wipe_at σ h⟩
theorem dl_lc {wi : TI} {g : TG} {tt : TT} {te : TE} {vs js : List Nat} {TI : DAt} {Tg : Dt → Gm → (Gm → Prop) → Prop} {Tt : DBt} {Te : DT} (hi : DI b wi TI) (hg : DG b g Tg js) (ht : DB b tt Tt) (he : DE b te Te) (hj : ∀ i, i ∈ js → i ∈ vs) :
    DLs b (tLc wi g tt te vs) (dLc TI Tg Tt Te vs) := fun {Fm F0 H0 F H σ γ} P n t Q q => hi _ n t _ fun J xs Fx H1 x1 w t1 => by
  obtain ⟨hz, Iv, i0, is, id⟩ := t1
  intro D hD
  obtain ⟨Y, wk, wy⟩ := w.ex
  refine lc_it wk (Pv := fun i H' => ∃ F' ws acc, Ext b Fx H1 F' H' ∧ H' D = some (.lst ws) ∧ F' D = none ∧ RepL b F' ws acc ∧ acc.length ≤ i ∧ Iv i acc) ?_ ?_ ?_ ?_
  · exact ⟨Fx, [], [], Ext.laid x1.ok hD, upd_same, x1.ok.fF hD, .nil, Nat.le_refl _, i0⟩
  · rintro i H' _ ⟨F', ws, acc, x, _⟩
    exact fun a o h => x.sub a o (x.grow a o h)
  · rintro i x H' H'' hi ⟨F', ws, acc, xx, a1, a2, a3, a4, a5⟩ y
    obtain ⟨d, hd, hy⟩ := wy i H' x H'' hi y
    -- the item, where it stands
    obtain ⟨F2, x2, rx⟩ : ∃ F2, Ext b F' H' F2 H'' ∧ Rep b F2 x d := by
      rcases hy with ⟨rfl, r⟩ | ⟨T, us, ds, rfl, hT, rfl, r, rfl⟩
      · exact ⟨F', Ext.refl xx.ok, r.mono xx.grow⟩
      · exact ⟨_, Ext.push xx.ok hT, .tup upd_same (r.mono (xx.grow.trans (Ext.push xx.ok hT).grow))⟩
    have nb : b ≠ some D := x1.ok.nb hD
    have n2 : Nv b Fm F0 H0 F2 H'' (wipe σ vs) (gwipe γ vs) := ((n.to x1).to (xx.trans x2)).wiped vs
    refine hg _ n2 rx (is i d acc hd a4 a5) _ fun σ2 γ2 n3 l3 s3 t3 => ⟨?_, ?_⟩
    · exact (wipe_ext (js := vs) l3 fun i hi => s3 i fun z => hi (hj i z)).trans (wipe_ext (wipe_length _ _) fun i hi => wipe_at σ hi)
    · have hD' : H'' D = some (.lst ws) := x2.keep _ _ nb a1
      have fD : F2 D = none := by rw [x2.new _ _ a1]; exact a2
      refine ht _ n3 t3 _ fun c F3 H3 x3 t4 => ?_
      have y3 := (xx.trans x2).trans x3
      have hD3 : H3 D = some (.lst ws) := x3.keep _ _ nb hD'
      have fD3 : F3 D = none := by rw [x3.new _ _ hD']; exact fD
      cases c with
      | true =>
        refine iteT (he _ (n3.to x3) t4 _ fun v d2 F4 H4 x4 r4 t5 => ?_)
        have hD4 : H4 D = some (.lst ws) := x4.keep _ _ nb hD3
        have fD4 : F4 D = none := by rw [x4.new _ _ hD3]; exact fD3
        have y4 := y3.trans x4
        refine ⟨ws, hD4, ?_, F4, ws ++ [v], acc ++ [d2], y4.wr hD fD4 nb, upd_same, fD4, (a3.mono (x2.grow.trans (x3.grow.trans x4.grow))).append (.cons r4 .nil), ?_, t5⟩
        · have hl := a3.length
          exact Nat.lt_of_le_of_lt (show ws.length ≤ 100000 by omega) (by decide)
        · rw [List.length_append]
          show acc.length + 1 ≤ i + 1
          omega
      | false =>
        exact iteF ⟨F3, ws, acc, y3, hD3, fD3, a3.mono (x2.grow.trans x3.grow), Nat.le_succ_of_le a4, t4⟩
  · rintro H' ⟨F', ws, acc, x, a1, a2, a3, a4, a5⟩
    exact q D ws acc F' H' (x1.trans x) (x1.back n.ok hD) a1 a2 a3 (id acc a4 a5)
end
end DL

namespace DL
open PySem PySem.Spec PyProof.Rows L2
/-! ### a list of one's own is lent for an expression that keeps nothing of it -/
mutual
def noLst : Dt → Bool
  | .lst _ => false
  | .tup xs => noLstL xs
  | .ins _ _ => false
  | .dT _ => false
  | _ => true
def noLstL : List Dt → Bool
  | [] => true
  | x :: xs => noLst x && noLstL xs
end
def less (F : Hp) (l : Addr) : Hp := fun a => if a = l then none else F a
theorem less_ne {F : Hp} {l a : Addr} (h : a ≠ l) : less F l a = F a := if_neg h
theorem less_at {F : Hp} {l : Addr} : less F l l = none := if_pos rfl
theorem less_sub {F : Hp} {l : Addr} : Sub (less F l) F := fun a o h => by
  by_cases e : a = l
  · rw [e, less_at] at h; cases h
  · rw [less_ne e] at h; exact h
section
variable {b : Option Addr} {F H : Hp}
mutual
theorem rep_less {l : Addr} {xs : List V} (hl : F l = some (.lst xs)) : ∀ {d : Dt} {v : V}, Rep b F v d → noLst d = true → Rep b (less F l) v d
  | .non, _, h, _ => by cases h; exact .non
  | .bl _, _, h, _ => by cases h; exact .bl _
  | .int _, _, h, _ => by cases h; exact .int _
  | .str _, _, h, _ => by cases h; exact .str _
  | .lst xs, _, h, p => by cases p
  | .tup xs, _, h, p => by
    cases h with
    | tup e r => exact .tup (by rw [less_ne (fun z => by rw [z, hl] at e; cases e)]; exact e) (repL_less hl r p)
  | .ins C fs, _, h, p => by cases p
  | .dT kvs, _, h, p => by cases p
  | .bag, _, h, p => by
    cases h with
    | bag e => exact .bag e
theorem repL_less {l : Addr} {xs : List V} (hl : F l = some (.lst xs)) : ∀ {ds : List Dt} {vs : List V}, RepL b F vs ds → noLstL ds = true → RepL b (less F l) vs ds
  | [], _, h, _ => by cases h; exact .nil
  | d :: ds, _, h, p => by
    cases h with
    | cons r t =>
      have p2 : (noLst d && noLstL ds) = true := p
      rw [Bool.and_eq_true] at p2
      exact .cons (rep_less hl r p2.1) (repL_less hl t p2.2)
end
end
@[reducible] def dLend (i : Nat) (T : DT) : DT := fun γ P => match gat γ i with
  | .own _ xs => T (gset γ i (.val (.lst xs))) fun d => noLst d = true ∧ P d
  | _ => False
section
variable {X : Cx} {b : Option Addr} {e e1 e2 e3 tg : Expr} {es : List Expr} {pos : Pos} {K : PySem.W.Frag} {Fx : Hp}
theorem lend_core {Fm F0 H0 F H : Hp} {σ : L2.St} {γ : Gm} (n : Nv b Fm F0 H0 F H σ γ) {i : Nat} {l : Addr} {xs : List Dt} (e : gat γ i = .own l xs) : ∃ vs, H l = some (.lst vs) ∧ Nv b F F0 H0 (upd F l (.lst vs)) H σ (gset γ i (.val (.lst xs))) ∧
    ∀ F' H', Ext b (upd F l (.lst vs)) H F' H' → F' l = some (.lst vs) ∧ Ext b F H (less F' l) H' := by
  have hi := n.slot i
  rw [e] at hi
  obtain ⟨vs, h1, h2, h3, h4, h5, h6⟩ := hi
  have x : Ext b F0 H0 (upd F l (.lst vs)) H := n.ext.take h5 h6 h2
  have g : Sub F (upd F l (.lst vs)) := fun a u q => by rw [upd_ne (ne_of_none q h4)]; exact q
  obtain ⟨F2, n2, g2⟩ := n.freeze e
  refine ⟨vs, h2, ?_, fun F' H' y => ?_⟩
  · refine ⟨n.ok0, g, x, by rw [gset_len]; exact n.len, fun j => ?_, fun j k p m ys zs hj hk hq => n2.dis j k p m ys zs hj hk hq⟩
    by_cases ej : j = i
    · subst ej
      rcases gat_set γ (i := j) (.val (.lst xs)) with q | ⟨q, _⟩
      · rw [q]
        exact ⟨.ref l, h1, .lst upd_same (h3.mono g)⟩
      · rw [q]; exact True.intro
    · rw [gat_set_ne _ _ ej]
      have hj := n.slot j
      cases ez : gat γ j with
      | un => exact True.intro
      | val d =>
        rw [ez] at hj
        obtain ⟨v, q1, q2⟩ := hj
        exact ⟨v, q1, q2.mono g⟩
      | own l2 ys =>
        rw [ez] at hj
        obtain ⟨vs2, q1, q2, q3, q4, q5, q6⟩ := hj
        refine ⟨vs2, q1, q2, q3.mono g, ?_, q5, q6⟩
        have nl : l2 ≠ l := fun z => ej (n.dis j i l2 l ys xs ez e z)
        rw [upd_ne nl]
        exact q4
  · have fl : F' l = some (.lst vs) := y.grow _ _ upd_same
    refine ⟨fl, y.keep, fun a o z => ?_, less_sub.trans y.sub, fun a o z => ?_, ?_, y.cell⟩
    · rw [less_ne (ne_of_none z h4)]
      exact y.grow _ _ (g _ _ z)
    · by_cases ea : a = l
      · rw [ea, less_at, h4]
      · rw [less_ne ea, y.new a o z, upd_ne ea]
    · have kb := n.ok
      cases eb : b with
      | none => trivial
      | some a =>
        subst eb
        obtain ⟨k0, c, cs, i2, v2, m, z, q1, q2, q3⟩ := n.ok.2
        obtain ⟨k0', c', cs', i2', v2', m', z', q1', q2', q3'⟩ := y.bag
        obtain ⟨c2, r', hr, qc⟩ := y.cell a c _ rfl q2
        have ec : c' = c2 := by
          rw [q2'] at hr
          injection hr with hr
          injection hr with hr
          injection hr with hr1 hr2
          injection hr1
        have cl : c' ≠ l := by
          rw [ec]
          rcases qc with z | z
          · rw [z]; exact ne_of_none q1 h4
          · exact (ne_of_none h2 z).symm
        have al : a ≠ l := fun z => h6 (congrArg some z)
        exact ⟨by rw [less_ne al]; exact k0', c', cs', i2', v2', m', z', by rw [less_ne cl]; exact q1', q2', q3'⟩
theorem de_lend {te : TE} {T : DT} (i : Nat) (h : DE b te T) : DE b te (dLend i T) := fun {Fm F0 H0 F H σ γ} P n t Q q => by
  unfold dLend at t
  cases e : gat γ i with
  | un => rw [e] at t; exact t.elim
  | val d => rw [e] at t; exact t.elim
  | own l xs =>
    rw [e] at t
    obtain ⟨vs, h2, nl, core⟩ := lend_core n e
    exact h _ nl t Q fun v d F' H' y r p => q v d (less F' l) H' (core F' H' y).2 (rep_less (core F' H' y).1 r p.1) p.2
@[reducible] def bLend (i : Nat) (T : DBt) : DBt := fun γ P => match gat γ i with
  | .own _ xs => T (gset γ i (.val (.lst xs))) P
  | _ => False
theorem db_lend {tt : TT} {T : DBt} (i : Nat) (h : DB b tt T) : DB b tt (bLend i T) := fun {Fm F0 H0 F H σ γ} P n t Q q => by
  unfold bLend at t
  cases e : gat γ i with
  | un => rw [e] at t; exact t.elim
  | val d => rw [e] at t; exact t.elim
  | own l xs =>
    rw [e] at t
    obtain ⟨vs, h2, nl, core⟩ := lend_core n e
    exact h _ nl t Q fun c F' H' y p => q c (less F' l) H' (core F' H' y).2 p
theorem t_lend (i : Nat) (h : XT X b e T) : XT X b e (bLend i T) := by
  obtain ⟨_, h1, h2⟩ := h
  exact ⟨_, h1, db_lend i h2⟩
theorem x_lend (i : Nat) (h : XE X b e T) : XE X b e (dLend i T) := by
  obtain ⟨_, h1, h2⟩ := h
  exact ⟨_, h1, de_lend i h2⟩
/-! ### one reading for a family of contexts -/
theorem XE.all {ι : Type} {Y : ι → Cx} {T : DT} (h : ∀ i, XE (Y i) b e T) : ∃ te, (∀ i, PE (Y i) e te) ∧ DE b te T :=
  ⟨fun σ H Q => ∀ i, (h i).ex.choose σ H Q, fun i => ⟨fun pins s σ H Q I hw => (h i).ex.choose_spec.1.run pins s σ H Q I (hw i)⟩, fun P n t Q q i => (h i).ex.choose_spec.2 P n t Q q⟩
theorem XTs.all {ι : Type} {Y : ι → Cx} {T : DBt} (h : ∀ i, XTs (Y i) b es T) : ∃ te, (∀ i, PTs (Y i) es te) ∧ DB b te T :=
  ⟨fun σ H Q => ∀ i, (h i).ex.choose σ H Q, fun i => ⟨fun pins s σ H Q I hw => (h i).ex.choose_spec.1.run pins s σ H Q I (hw i)⟩, fun P n t Q q i => (h i).ex.choose_spec.2 P n t Q q⟩
theorem XG.all {ι : Type} {Y : ι → Cx} {T} {js : List Nat} (h : ∀ i, XG (Y i) b e T js) : ∃ te, (∀ i, PG (Y i) e te) ∧ DG b te T js :=
  ⟨fun v σ H Q => ∀ i, (h i).ex.choose v σ H Q, fun i => ⟨fun pins s σ H v u Q I r hw => (h i).ex.choose_spec.1.run pins s σ H v u Q I r (hw i)⟩, fun {Fm F0 H0 F H σ γ} P {v d} n r t Q q i => (h i).ex.choose_spec.2 P n r t Q q⟩
theorem ts_nil : XTs X b [] (fun _ P => P true) := ⟨_, pts_nil, fun P n t Q q => q true _ _ (Ext.refl n.ok) t⟩
theorem ts_one (h : XT X b e T) : XTs X b [e] T := by
  obtain ⟨_, h1, h2⟩ := h
  exact ⟨_, pts_one h1, h2⟩
abbrev Bix := Shared × Hp × Addr × List (Str × Addr) × List Addr
abbrev Cx.blkI (X : Cx) (scope : Scope) (i : Bix) : Cx := X.blk i.1 i.2.1 scope (compEnvC scope i.2.2.2.1 i.2.2.1 X.env) i.2.2.2.2
theorem l_lc {elt tg iter : Expr} {ifs : List Expr} {scope : Scope} {own : List (Str × Nat)} {js vs : List Nat} {TI : DAt} {Tg : Dt → Gm → (Gm → Prop) → Prop} {Tt : DBt} {Te : DT} (hc : X.calm = true) (hN : X.N.Nodup) (hi : XI X b tg iter TI) (ok : BlkOk X.N X.env.scope scope own)
    (hg : ∀ i : Bix, XG (Cx.blkI X scope i) b tg Tg js) (ht : ∀ i : Bix, XTs (Cx.blkI X scope i) b ifs Tt) (he : ∀ i : Bix, XE (Cx.blkI X scope i) b elt Te) (hj : ∀ i, i ∈ js → i ∈ vs) (hv : own.map (·.2) = vs := by rfl) (hs : ∀ x, foldedSetIterable iter X.env x = pure x := by intro _; rfl) :
    XL X b (.ListComp elt [⟨tg, iter, ifs, 0⟩] scope pos) (dLc TI Tg Tt Te vs) := by
  subst hv
  obtain ⟨_, i1, i2⟩ := hi
  obtain ⟨g, g1, g2⟩ := XG.all hg
  obtain ⟨tt, t1, t2⟩ := XTs.all ht
  obtain ⟨te, e1, e2⟩ := XE.all he
  exact ⟨_, pe_lc hc hN i1 ok (fun s H C cl fp => g1 (s, H, C, cl, fp)) (fun s H C cl fp => t1 (s, H, C, cl, fp)) (fun s H C cl fp => e1 (s, H, C, cl, fp)) hs, dl_lc i2 g2 t2 e2 hj⟩
/-! ### statements -/
@[reducible] def sNext : DSt := fun E γ => E.nx γ
@[reducible] def sSeq (t u : DSt) : DSt := fun E γ => t { E with nx := fun γ' => u E γ' } γ
theorem ss_nil : XSs X b [] sNext := ⟨_, pss_nil, fun E n t D k => k.nx n t⟩
theorem ss_one {st : Stmt} (h : XS X b st t) : XSs X b [st] t := by
  obtain ⟨_, h1, h2⟩ := h
  exact ⟨_, pss_one h1, h2⟩
theorem ss_cons {st : Stmt} {r : List Stmt} (h : XS X b st t) (g : XSs X b r u) : XSs X b (st :: r) (sSeq t u) := by
  obtain ⟨_, h1, h2⟩ := h; obtain ⟨_, g1, g2⟩ := g
  exact ⟨_, pss_cons h1 g1, fun E n t D k => h2 _ n t _ ⟨fun n' t' => g2 _ n' t' D k, k.rt, k.bk, k.ct⟩⟩
theorem s_pass : XS X b (.Pass pos) sNext := ⟨_, ps_pass, fun E n t D k => k.nx n t⟩
theorem s_doc {x j p2} : XS X b (.Expr (.Constant (.str x) j pos) p2) sNext := ⟨_, ps_doc, fun E n t D k => k.nx n t⟩
theorem s_break : XS X b (.Break pos) (fun E γ => E.bk γ) := ⟨_, ps_break, fun E n t D k => k.bk n t⟩
theorem s_continue : XS X b (.Continue pos) (fun E γ => E.ct γ) := ⟨_, ps_continue, fun E n t D k => k.ct n t⟩
@[reducible] def sRet (Ta : DT) : DSt := fun E γ => Ta γ (E.rt γ)
theorem s_ret (h : XE X b e Ta) : XS X b (.Return (some e) pos) (sRet Ta) := by
  obtain ⟨_, h1, h2⟩ := h
  exact ⟨_, ps_ret h1, fun E n t D k => h2 _ n t _ fun v d F' H' x r p => k.rt (n.to x) r p⟩
theorem s_retN : XS X b (.Return none pos) (fun E γ => E.rt γ .non) := ⟨_, ps_retN, fun E n t D k => k.rt n .non t⟩
/-- a list of one's own is handed back -/
@[reducible] def sRetO (i : Nat) : DSt := fun E γ => match gat γ i with | .own _ xs => E.rt (gset γ i (.val (.lst xs))) (.lst xs) | .val d => E.rt γ d | .un => False
theorem s_retO (i : Nat) {x : Str} {p1 : Pos} (hN : X.N[i]? = some x := by rfl) (hv : Vis X.env.scope x := by first | exact Or.inl rfl | exact Or.inr (Or.inl rfl) | exact Or.inr (Or.inr rfl)) (hd : (x == ("__debug__" : Str)) = false := by decide)
    (hcd : (x == ("__classdict__" : Str)) = false := by decide) : XS X b (.Return (some (.Name x p1)) pos) (sRetO i) := by
  refine ⟨_, ps_ret (pe_var hN hv hd hcd), fun {Fm F0 H0 F H σ γ} E n t D k => ?_⟩
  unfold sRetO at t
  have hi := n.slot i
  cases e : gat γ i with
  | un => rw [e] at t; exact t.elim
  | val d =>
    rw [e] at t hi
    obtain ⟨v, h1, h2⟩ := hi
    exact ⟨v, h1, k.rt n h2 t⟩
  | own l xs =>
    rw [e] at t hi
    obtain ⟨vs, h1, h2, h3, h4, h5, h6⟩ := hi
    obtain ⟨F', n', g⟩ := n.freeze e
    have hs := n'.slot i
    rcases gat_set γ (i := i) (.val (.lst xs)) with q | ⟨q, ql⟩
    · rw [q] at hs
      obtain ⟨v, s1, s2⟩ := hs
      rw [h1] at s1
      cases s1
      exact ⟨_, h1, k.rt n' s2 t⟩
    · exfalso
      have : ∀ (γ : Gm) (k : Nat), γ.length ≤ k → gat γ k = .un := fun γ => by
        induction γ with
        | nil => intro k _; rfl
        | cons a r ih =>
          intro k hk
          cases k with
          | zero => cases hk
          | succ k => exact ih k (Nat.le_of_succ_le_succ hk)
      rw [this γ i ql] at e
      cases e
@[reducible] def sDrop (Ta : DT) : DSt := fun E γ => Ta γ fun _ => E.nx γ
theorem s_expr (h : XE X b e Ta) (hs : swapsWith e none pos.line X.env = pure false := by rfl) : XS X b (.Expr e pos) (sDrop Ta) := by
  obtain ⟨_, h1, h2⟩ := h
  exact ⟨_, ps_expr h1 hs, fun E n t D k => h2 _ n t _ fun v d F' H' x r p => k.nx (n.to x) p⟩
@[reducible] def sSet (i : Nat) (Ta : DT) : DSt := fun E γ => Ta γ fun d => E.nx (gset γ i (.val d))
theorem s_set {i : Nat} {x : Str} {p2 : Pos} (hN : X.N.Nodup) (hi : X.N[i]? = some x) (hx : Loc X.env.scope x) (h : XE X b e Ta) (hs : swapsWith e (some (.Name x p2)) pos.line X.env = pure false := by rfl) (hf : X.fn x = true ∨ X.env.scope.names.lookup x = some .local := by first | exact .inl rfl | exact .inr rfl | assumption) :
    XS X b (.Assign [.Name x p2] e pos) (sSet i Ta) := by
  obtain ⟨_, h1, h2⟩ := h
  exact ⟨_, ps_set hN hi hx h1 hs hf, fun E n t D k => h2 _ n t _ fun v d F' H' x r p => k.nx ((n.to x).set i r) p⟩
@[reducible] def sSetL (i : Nat) (Tl : DAt) : DSt := fun E γ => Tl γ fun xs => ∀ l, E.nx (gset γ i (.own l xs))
theorem ds_setL {i : Nat} {te : TE} {Tl : DAt} (h2 : DLs b te Tl) : DS b (tAsg te (gName i)) (sSetL i Tl) := fun {Fm F0 H0 F H σ γ} E n t D k => h2 _ n t _ fun p vs xs F' H' x hp hl hf r pp => by
  refine k.nx ((n.to x).setOwn i hl r hf (n.ext.back n.ok0 hp) (n.ok.nb hp) fun j m ys hj hq => ?_) (pp p)
  have hs := n.slot j
  rw [hj] at hs
  obtain ⟨vs2, h1, h2, _⟩ := hs
  rw [hq, hp] at h2
  cases h2
theorem s_setL {i : Nat} {x : Str} {p2 : Pos} (hN : X.N.Nodup) (hi : X.N[i]? = some x) (hx : Loc X.env.scope x) (h : XL X b e Tl) (hs : swapsWith e (some (.Name x p2)) pos.line X.env = pure false := by rfl) (hf : X.fn x = true ∨ X.env.scope.names.lookup x = some .local := by first | exact .inl rfl | exact .inr rfl | assumption) :
    XS X b (.Assign [.Name x p2] e pos) (sSetL i Tl) := by
  obtain ⟨_, h1, h2⟩ := h
  exact ⟨_, ps_set hN hi hx h1 hs hf, ds_setL h2⟩
/-- name = [.. for ..] -/
theorem s_setLc {i : Nat} {y : Str} {py : Pos} {elt tg iter : Expr} {ifs : List Expr} {scope : Scope} {own : List (Str × Nat)} {p2 : Pos} {js vs : List Nat} {TI : DAt} {Tg : Dt → Gm → (Gm → Prop) → Prop} {Tt : DBt} {Te : DT} (hc : X.calm = true) (hN : X.N.Nodup) (hy : X.N[i]? = some y) (hyl : X.env.scope.names.lookup y = some .local)
    (hsw : swapsWith (.ListComp elt [⟨tg, iter, ifs, 0⟩] scope p2) (some (.Name y py)) pos.line X.env = pure true) (hi : XI X b tg iter TI) (ok : BlkOk X.N X.env.scope scope own)
    (hg : ∀ i : Bix, XG (Cx.blkI X scope i) b tg Tg js) (ht : ∀ i : Bix, XTs (Cx.blkI X scope i) b ifs Tt) (he : ∀ i : Bix, XE (Cx.blkI X scope i) b elt Te) (hj : ∀ i, i ∈ js → i ∈ vs) (hv : own.map (·.2) = vs := by rfl) (hs : ∀ x, foldedSetIterable iter X.env x = pure x := by intro _; rfl) :
    XS X b (.Assign [.Name y py] (.ListComp elt [⟨tg, iter, ifs, 0⟩] scope p2) pos) (sSetL i (dLc TI Tg Tt Te vs)) := by
  subst hv
  obtain ⟨_, i1, i2⟩ := hi
  obtain ⟨g, g1, g2⟩ := XG.all hg
  obtain ⟨tt, t1, t2⟩ := XTs.all ht
  obtain ⟨te, e1, e2⟩ := XE.all he
  exact ⟨_, ps_setLc hc hN hy hyl hsw i1 ok (fun s H C cl fp => g1 (s, H, C, cl, fp)) (fun s H C cl fp => t1 (s, H, C, cl, fp)) (fun s H C cl fp => e1 (s, H, C, cl, fp)) hs, ds_setL (dl_lc i2 g2 t2 e2 hj)⟩
/-- a list of one's own counts as a value from here on -/
@[reducible] def sFrz (i : Nat) (T : DSt) : DSt := fun E γ => match gat γ i with | .own _ xs => T E (gset γ i (.val (.lst xs))) | _ => T E γ
theorem DS.frz {ts : TS} {T : DSt} (i : Nat) (h : DS b ts T) : DS b ts (sFrz i T) := fun {Fm F0 H0 F H σ γ} E n t D k => by
  unfold sFrz at t
  cases e : gat γ i with
  | un => rw [e] at t; exact h E n t D k
  | val d => rw [e] at t; exact h E n t D k
  | own l xs =>
    rw [e] at t
    obtain ⟨F', n', g⟩ := n.freeze e
    exact h E n' t D k
theorem s_frz {st : Stmt} (i : Nat) (h : XS X b st T) : XS X b st (sFrz i T) := by
  obtain ⟨_, h1, h2⟩ := h
  exact ⟨_, h1, h2.frz i⟩
theorem ss_frz {st : List Stmt} (i : Nat) (h : XSs X b st T) : XSs X b st (sFrz i T) := by
  obtain ⟨_, h1, h2⟩ := h
  exact ⟨_, h1, h2.frz i⟩
@[reducible] def sPar (i j : Nat) (Ta : DAt) : DSt := fun E γ => Ta γ fun ds => match ds with | [d1, d2] => E.nx (gset (gset γ i (.val d1)) j (.val d2)) | _ => False
theorem s_par {i j : Nat} {x y : Str} {a c : Expr} {px py pt : Pos} {kt k2 pt2} (hc : X.calm = true) (hN : X.N.Nodup) (hi : X.N[i]? = some x) (hj : X.N[j]? = some y) (hij : i ≠ j)
    (hx : X.env.scope.names.lookup x = some .local) (hy : X.env.scope.names.lookup y = some .local) (ha : XA X b [a, c] Ta)
    (hw : swappedStores [.Tuple [.Name x px, .Name y py] kt pt] (.Tuple [a, c] k2 pt2) X.env = pure (some [x, y]))
    (hs : swapsWithSole [.Tuple [.Name x px, .Name y py] kt pt] (.Tuple [a, c] k2 pt2) pos.line X.env = pure false := by rfl) :
    XS X b (.Assign [.Tuple [.Name x px, .Name y py] kt pt] (.Tuple [a, c] k2 pt2) pos) (sPar i j Ta) := by
  obtain ⟨_, h1, h2⟩ := ha
  refine ⟨_, ps_par hc hN hi hj hij hx hy h1 hw hs, fun E n t D k => h2 _ n t _ fun vs ds F' H' x r p => ?_⟩
  cases r with
  | nil => exact p.elim
  | cons ra rb =>
    cases rb with
    | nil => exact p.elim
    | cons rb rc =>
      cases rc with
      | cons _ _ => exact p.elim
      | nil => exact ⟨_, _, rfl, k.nx (((n.to x).set i ra).set j rb) p⟩
@[reducible] def sPar3 (i j l : Nat) (Ta : DAt) : DSt := fun E γ => Ta γ fun ds => match ds with | [d1, d2, d3] => E.nx (gset (gset (gset γ i (.val d1)) j (.val d2)) l (.val d3)) | _ => False
theorem s_par3 {i j l : Nat} {x y z : Str} {a c d : Expr} {px py pz pt : Pos} {kt k2 pt2} (hc : X.calm = true) (hN : X.N.Nodup) (hi : X.N[i]? = some x) (hj : X.N[j]? = some y) (hl : X.N[l]? = some z) (hij : i ≠ j) (hil : i ≠ l) (hjl : j ≠ l)
    (hx : X.env.scope.names.lookup x = some .local) (hy : X.env.scope.names.lookup y = some .local) (hz : X.env.scope.names.lookup z = some .local) (ha : XA X b [a, c, d] Ta)
    (hw : swappedStores [.Tuple [.Name x px, .Name y py, .Name z pz] kt pt] (.Tuple [a, c, d] k2 pt2) X.env = pure (some [x, y, z]))
    (hs : swapsWithSole [.Tuple [.Name x px, .Name y py, .Name z pz] kt pt] (.Tuple [a, c, d] k2 pt2) pos.line X.env = pure false := by rfl) :
    XS X b (.Assign [.Tuple [.Name x px, .Name y py, .Name z pz] kt pt] (.Tuple [a, c, d] k2 pt2) pos) (sPar3 i j l Ta) := by
  obtain ⟨_, h1, h2⟩ := ha
  refine ⟨_, ps_par3 hc hN hi hj hl hij hil hjl hx hy hz h1 hw hs, fun E n t D k => h2 _ n t _ fun vs ds F' H' x r p => ?_⟩
  cases r with
  | nil => exact p.elim
  | cons ra rb =>
    cases rb with
    | nil => exact p.elim
    | cons rb rc =>
      cases rc with
      | nil => exact p.elim
      | cons rc rd =>
        cases rd with
        | cons _ _ => exact p.elim
        | nil => exact ⟨_, _, _, rfl, k.nx ((((n.to x).set i ra).set j rb).set l rc) p⟩
@[reducible] def sAsg (Ta : DT) (Tg : Dt → Gm → (Gm → Prop) → Prop) : DSt := fun E γ => Ta γ fun d => Tg d γ E.nx
theorem s_asg {js : List Nat} (h : XE X b e Ta) (g : XG X b tg Tg js) (hs : swapsWithSole [tg] e pos.line X.env = pure false := by rfl) (hw : swappedStores [tg] e X.env = pure none := by rfl) (hh : (assignEach [tg] X.env).map (·.2) = [assign tg X.env] := by rfl) : XS X b (.Assign [tg] e pos) (sAsg Ta Tg) := by
  obtain ⟨_, h1, h2⟩ := h; obtain ⟨_, g1, g2⟩ := g
  exact ⟨_, ps_asg h1 g1 hs hw hh, fun E n t D k => h2 _ n t _ fun v d F' H' x r p => g2 _ (n.to x) r p _ fun σ' γ' n' _ _ p' => k.nx n' p'⟩
theorem g_tup' {k : Nat} {js : List Nat} {m : Nat} (hc : X.calm = true) (h : XGs X b es U js) (hn : (assignEach es X.env).length = m := by rfl) (hst : (assignEach es X.env).findIdx? (·.1) = none := by rfl) : XG X b (.Tuple es k pos) (gTu m U) js := by
  obtain ⟨_, h1, h2⟩ := h
  refine ⟨_, pg_tup hc h1 hn hst, fun {Fm F0 H0 F H σ γ} P {v d} n r t Q q => ?_⟩
  cases r <;> first | exact t.elim | skip
  rename_i hh r
  exact ⟨_, _, rfl, SqT.of (n.ok.1 _ _ hh), by rw [r.length]; exact t.1, h2 _ n r t.2 _ q⟩
@[reducible] def sIf (A : DBt) (t u : DSt) : DSt := fun E γ => A γ fun c => (match c with | true => t E γ | false => u E γ)
theorem s_if {c : Expr} {p q : List Stmt} (hc : XT X b c A) (h : XSs X b p t) (g : XSs X b q u) : XS X b (.If c p q pos) (sIf A t u) := by
  obtain ⟨_, c1, c2⟩ := hc; obtain ⟨_, h1, h2⟩ := h; obtain ⟨_, g1, g2⟩ := g
  refine ⟨_, ps_if c1 h1 g1, fun E n t D k => c2 _ n t _ fun c F' H' x p => ?_⟩
  cases c with
  | true => exact iteT (h2 E (n.to x) p D k)
  | false => exact iteF (g2 E (n.to x) p D k)
/-- a list of one's own grows -/
@[reducible] def sApp (i : Nat) (Ta : DT) : DSt := fun E γ => match gat γ i with | .own l xs => Ta γ fun d => xs.length < 100000 ∧ E.nx (gset γ i (.own l (xs ++ [d]))) | _ => False
theorem s_app (i : Nat) {x : Str} {apos p1 p2 : Pos} (ha : XE X b e Ta) (hN : X.N[i]? = some x := by rfl) (hv : Vis X.env.scope x := by first | exact Or.inl rfl | exact Or.inr (Or.inl rfl) | exact Or.inr (Or.inr rfl)) (hd : (x == ("__debug__" : Str)) = false := by decide)
    (hcd : (x == ("__classdict__" : Str)) = false := by decide) (he : starEach [e] X.env = (false, eval e X.env) :: starEach [] X.env := by rfl)
    (hpe : ∀ {te : TE} {t : TA}, PE X (.Name x p1) te → PA X [e] t → PE X (.Call (.Attribute (.Name x p1) "append" apos) [e] [] p2) (tBM X.K "list" rAppend te t) := by exact fun h g => pe_bm PySem.F.plainAttrs_list PySem.F.slot_list_append PySem.F.type_list_append mt_append h g)
    (hs : swapsWith (.Call (.Attribute (.Name x p1) "append" apos) [e] [] p2) none pos.line X.env = pure false := by rfl) : XS X b (.Expr (.Call (.Attribute (.Name x p1) "append" apos) [e] [] p2) pos) (sApp i Ta) := by
  obtain ⟨_, h1, h2⟩ := ha
  refine ⟨_, ps_expr (hpe (pe_var hN hv hd hcd) (pa_cons h1 pa_nil he)) hs, fun {Fm F0 H0 F H σ γ} E n t D k => ?_⟩
  unfold sApp at t
  have hi := n.slot i
  cases e : gat γ i with
  | un => rw [e] at t; exact t.elim
  | val d => rw [e] at t; exact t.elim
  | own l xs =>
    rw [e] at hi t
    obtain ⟨vs, a1, a2, a3, a4, a5, a6⟩ := hi
    refine ⟨_, a1, Or.inl ⟨rfl, vs, SqL.of a2⟩, h2 _ n t _ fun v d F' H' x r p => ?_⟩
    refine ⟨l, vs, v, rfl, rfl, x.keep _ _ a6 a2, ?_, k.nx ((n.to x).wr e ((a3.mono x.grow).append (.cons r .nil))) p.2⟩
    exact Nat.lt_of_le_of_lt (show vs.length ≤ 100000 by rw [a3.length]; omega) (by decide)
/-- an item of a list of one's own is stored -/
@[reducible] def sSetIx (i : Nat) (Ta Tb : DT) : DSt := fun E γ => match gat γ i with | .own l xs => (Ta γ fun d => Tb γ fun j => match j with | .int z => ∃ n, ixN xs.length z = some n ∧ E.nx (gset γ i (.own l (xs.set n d))) | _ => False) | _ => False
theorem RepL.set {F : Hp} : ∀ {xs : List Dt} {vs : List V} (n : Nat) {v : V} {d : Dt}, RepL b F vs xs → Rep b F v d → RepL b F (vs.set n v) (xs.set n d)
  | _, _, _, _, _, .nil, _ => .nil
  | _, _, 0, _, _, .cons _ t, r => .cons r t
  | _, _, n + 1, _, _, .cons q t, r => .cons q (RepL.set n t r)
theorem s_setIx (i : Nat) {x : Str} {p1 p2 : Pos} (ha : XE X b e Ta) (hj : XE X b e2 Tb) (hN : X.N[i]? = some x := by rfl) (hv : Vis X.env.scope x := by first | exact Or.inl rfl | exact Or.inr (Or.inl rfl) | exact Or.inr (Or.inr rfl)) (hd : (x == ("__debug__" : Str)) = false := by decide)
    (hcd : (x == ("__classdict__" : Str)) = false := by decide)
    (hps : ∀ {te to ti : TE}, PE X e te → PE X (.Name x p1) to → PE X e2 ti → PS X (.Assign [.Subscript (.Name x p1) e2 p2] e pos) (tAsg te (gSub to ti rSetL)) := by exact fun h o i => ps_asg h (pg_sub o i set_list)) :
    XS X b (.Assign [.Subscript (.Name x p1) e2 p2] e pos) (sSetIx i Ta Tb) := by
  obtain ⟨_, h1, h2⟩ := ha; obtain ⟨_, j1, j2⟩ := hj
  refine ⟨_, hps h1 (pe_var hN hv hd hcd) j1, fun {Fm F0 H0 F H σ γ} E n t D k => ?_⟩
  unfold sSetIx at t
  have hi := n.slot i
  cases e : gat γ i with
  | un => rw [e] at t; exact t.elim
  | val d => rw [e] at t; exact t.elim
  | own l xs =>
    rw [e] at hi t
    obtain ⟨vs, a1, a2, a3, a4, a5, a6⟩ := hi
    refine h2 _ n t _ fun v d F1 H1 x1 r1 t1 => ⟨_, a1, j2 _ (n.to x1) t1 _ fun w z F2 H2 x2 r2 t2 => ?_⟩
    cases r2 <;> first | exact t2.elim | skip
    obtain ⟨m, t3, t4⟩ := t2
    refine ⟨l, vs, _, m, rfl, rfl, x2.keep _ _ a6 (x1.keep _ _ a6 a2), by rw [a3.length]; exact t3, k.nx (((n.to x1).to x2).wr e ((a3.mono (x1.grow.trans x2.grow)).set m (x2.mono r1))) t4⟩
/-- for: Iv the word between the turns -/
@[reducible] def sFor (TI : DAt) (Tg : Dt → Gm → (Gm → Prop) → Prop) (Tb : DSt) : DSt := fun E γ => TI γ fun xs => Word (∃ Iv : Nat → Gm → Prop, Iv 0 γ ∧
  (∀ i d γ', xs[i]? = some d → Iv i γ' → Tg d γ' fun γ2 => Tb { E with nx := Iv (i + 1), ct := Iv (i + 1), bk := E.nx } γ2) ∧ ∀ γ', Iv xs.length γ' → E.nx γ')
theorem s_for {iter : Expr} {body : List Stmt} {js : List Nat} {TI : DAt} {Tg : Dt → Gm → (Gm → Prop) → Prop} {Tb : DSt} (hc : X.calm = true) (hi : XI X b tg iter TI) (g : XG X b tg Tg js) (h : XSs X b body Tb) (hp : PassesOwn (model X.prog X.w) X.A X.env X.xe := by exact PassesOwn.never) (hs : ∀ x, foldedSetIterable iter X.env x = pure x := by intro _; rfl) :
    XS X b (.For tg iter body [] pos) (sFor TI Tg Tb) := by
  obtain ⟨_, i1, i2⟩ := hi; obtain ⟨_, g1, g2⟩ := g; obtain ⟨_, h1, h2⟩ := h
  refine ⟨_, ps_for hp hc i1 g1 h1 hs, fun {Fm F0 H0 F H σ γ} E n t D k => i2 _ n t _ fun J xs Fx H1 x1 w t1 => ?_⟩
  obtain ⟨Iv, i0, is, id⟩ := t1
  obtain ⟨Y, wk, wy⟩ := w.ex
  have fmx : Sub Fm Fx := n.fm.trans x1.grow
  have down : ∀ {F' H' : Hp} {σ' : L2.St} {γ' : Gm}, Nv b Fx F0 H0 F' H' σ' γ' → Nv b Fm F0 H0 F' H' σ' γ' := fun n' => ⟨n'.ok0, fmx.trans n'.fm, n'.ext, n'.len, n'.slot, n'.dis⟩
  refine for_it wk (Pv := fun i σ' H' => ∃ F' γ', Nv b Fx F0 H0 F' H' σ' γ' ∧ Iv i γ') ?_ ?_ ?_ ?_
  · have n1 := n.to x1
    exact ⟨Fx, γ, ⟨n1.ok0, Sub.refl _, n1.ext, n1.len, n1.slot, n1.dis⟩, i0⟩
  · rintro i σ' H' _ ⟨F', γ', n', _⟩
    exact fun a o z => n'.ok.1 a o (n'.fm a o z)
  · rintro i x σ' H' H'' hi ⟨F', γ', n', p⟩ y
    obtain ⟨d, hd, hy⟩ := wy i H' x H'' hi y
    obtain ⟨F2, x2, rx⟩ : ∃ F2, Ext b F' H' F2 H'' ∧ Rep b F2 x d := by
      rcases hy with ⟨rfl, r⟩ | ⟨T, us, ds, rfl, hT, rfl, r, rfl⟩
      · exact ⟨F', Ext.refl n'.ok, r.mono n'.fm⟩
      · exact ⟨_, Ext.push n'.ok hT, .tup upd_same (r.mono (n'.fm.trans (Ext.push n'.ok hT).grow))⟩
    refine g2 _ (n'.to x2) rx (is i d γ' hd p) _ fun σ2 γ2 n3 _ _ t3 => ?_
    exact h2 _ n3 t3 _ ⟨fun n4 p4 => ⟨_, _, n4, p4⟩, fun n4 r4 p4 => k.rt (down n4) r4 p4, fun n4 p4 => k.nx (down n4) p4, fun n4 p4 => ⟨_, _, n4, p4⟩⟩
  · rintro σ' H' ⟨F', γ', n', p⟩
    exact k.nx (down n') (id γ' p)
/-- i += e, of ints -/
@[reducible] def sAug (i : Nat) (f : Int → Int → Int) (Ta : DT) : DSt := fun E γ => match gat γ i with | .val (.int x) => (Ta γ fun d => match d with | .int y => E.nx (gset γ i (.val (.int (f x y)))) | _ => False) | _ => False
theorem s_augAdd {i : Nat} {x : Str} {p2 : Pos} (hN : X.N.Nodup) (hi : X.N[i]? = some x) (hx : Loc X.env.scope x) (h : XE X b e Ta) (hf : X.fn x = true ∨ X.env.scope.names.lookup x = some .local := by first | exact .inl rfl | exact .inr rfl | assumption)
    (hpp : ∀ {te : TE}, PE X e te → PS X (.AugAssign (.Name x p2) .Add e pos) (tAug i te (ipI fun i j => i + j)) := by exact fun h => ps_aug (by assumption) (by assumption) (by assumption) h ip_add) : XS X b (.AugAssign (.Name x p2) .Add e pos) (sAug i (fun i j => i + j) Ta) := by
  obtain ⟨_, h1, h2⟩ := h
  refine ⟨_, hpp h1, fun {Fm F0 H0 F H σ γ} E n t D k => ?_⟩
  unfold sAug at t
  have hi := n.slot i
  cases e : gat γ i with
  | un => rw [e] at t; exact t.elim
  | own l d => rw [e] at t; exact t.elim
  | val d =>
    rw [e] at t hi
    cases d <;> first | exact t.elim | skip
    obtain ⟨v, a1, a2⟩ := hi
    cases a2
    refine ⟨_, a1, h2 _ n t _ fun v d F' H' x r p => ?_⟩
    cases r <;> first | exact p.elim | skip
    exact ⟨_, _, rfl, rfl, k.nx ((n.to x).set i (.int _)) p⟩

/-! ### a def keeps what its data say -/
def startD (N : List Str) (ds : List Dt) : Gm := ds.map Sl.val ++ List.replicate (N.length - ds.length) .un
theorem start_nv {Fm F0 H0 : Hp} {N : List Str} {vs : List V} {ds : List Dt} (k : Ok b F0 H0) (r : RepL b F0 vs ds) : Nv b F0 F0 H0 F0 H0 (L2.start N vs) (startD N ds) := by
  have at_ : ∀ (i : Nat), (∃ d v, ds[i]? = some d ∧ vs[i]? = some v ∧ Rep b F0 v d ∧ gat (startD N ds) i = .val d ∧ (L2.start N vs)[i]? = some (some v)) ∨ gat (startD N ds) i = .un := fun i => by
    have gl : ∀ (l : List Dt) (m : Nat) (i : Nat), gat (l.map Sl.val ++ List.replicate m .un) i = (match l[i]? with | some d => .val d | none => .un) := fun l => by
      induction l with
      | nil =>
        intro m
        induction m with
        | zero => intro i; rfl
        | succ m ih =>
          intro i
          cases i with
          | zero => rfl
          | succ i => exact ih i
      | cons a r ih =>
        intro m i
        cases i with
        | zero => rfl
        | succ i =>
          exact ih m i
    have g1 := gl ds (N.length - ds.length) i
    cases e : ds[i]? with
    | none => right; unfold startD; rw [g1, e]
    | some d =>
      left
      obtain ⟨v, h1, h2⟩ := r.get' e
      refine ⟨d, v, rfl, h1, h2, by unfold startD; rw [g1, e], ?_⟩
      unfold L2.start
      have hl := (List.getElem?_eq_some_iff.mp h1).1
      rw [List.getElem?_append_left (by rw [List.length_map]; exact hl), List.getElem?_map, h1]
      rfl
  refine ⟨k, Sub.refl _, Ext.refl k, ?_, fun i => ?_, fun i j l m xs ys hi hj _ => ?_⟩
  · unfold L2.start startD
    rw [List.length_append, List.length_append, List.length_map, List.length_map, List.length_replicate, List.length_replicate, r.length]
  · rcases at_ i with ⟨d, v, _, _, h, g, s⟩ | g
    · rw [g]; exact ⟨v, s, h⟩
    · rw [g]; exact True.intro
  · rcases at_ i with ⟨d, v, _, _, h, g, s⟩ | g
    · rw [g] at hi; cases hi
    · rw [g] at hi; cases hi
end
section
variable {P : Program} {w : World} {K : PySem.W.Frag} {mg : Str → Option Value} {base : Heap} {b : Option Addr}
/-- THE RULE for a def -/
theorem fn_D {x qual : Str} {st : Stmt} {f : Addr} {fd : FuncData} {N ps : List Str} {k : Nat} {T : DSp} (F : Fun K x qual st f fd) (S : FnScope N ps (defScope st))
    (hbody : ∀ (X : Cx) (outer : List Env) (cdv : Value) (A : Around) (s : Shared) (H : Hp) (E : L2.XK), X = (cxOf CX0 P w K mg base N qual (defScope st) f cdv A outer s H E).nox → Room k X.A → ∃ T', XSs (cxOf CX0 P w K mg base N qual (defScope st) f cdv A outer s H E).nox b (defBody st) T' ∧ ∀ (ds : List Dt) (R : Dt → Prop), ds.length = ps.length → T ds R → T' { nx := fun _ => R .non, rt := fun _ => R } (startD N ds)) :
    FnOk P w K mg base CX0 (k + 1) f fd ps (spD b ps.length T) := by
  refine F.ok S (fun vs H Q E h => ?_) (fun cdv A outer s H vs Q E hr h => ?_)
  · obtain ⟨F0, ds, R, h1, h2, h3, _⟩ := h
    rw [h2.length, h3]
  · obtain ⟨F0, ds, R, h1, h2, h3, h4, h5⟩ := h
    obtain ⟨T', ⟨t, t1, t2⟩, t3⟩ := hbody _ outer cdv A s H E rfl hr
    refine ⟨t, t1, t2 _ (start_nv (Fm := F0) h1 h2) (t3 ds R h3 h4) _ ⟨?_, ?_, ?_, ?_⟩⟩
    · intro F' H' σ γ n r
      exact h5 _ _ _ _ n.ext .non r
    · intro F' H' σ γ v d n r p
      exact h5 _ _ _ _ n.ext r p
    · intro F' H' σ γ n r
      exact r.elim
    · intro F' H' σ γ n r
      exact r.elim
end
end DL

namespace DL
open PySem PySem.Spec PyProof.Rows L2
section
variable {X : Cx} {b : Option Addr} {e e1 e2 e3 tg : Expr} {es : List Expr} {pos : Pos} {K : PySem.W.Frag} {Fx : Hp}
/-! ### chains as tests, stars -/
theorem t_chLeLe (ha : XE X b e1 Ta) (hb : XE X b e2 Tb) (hc : XE X b e3 Tc) (hm : lastMarks [.LtE, .LtE] [e2, e3] = false := by with_unfolding_all rfl) : XT X b (.Compare e1 [.LtE, .LtE] [e2, e3] pos) (tB1 (dChI (fun i j => decide (i ≤ j)) (fun i j => decide (i ≤ j)) Ta Tb Tc)) := by
  obtain ⟨_, h1, h2⟩ := ha; obtain ⟨_, g1, g2⟩ := hb; obtain ⟨_, f1, f2⟩ := hc
  exact ⟨_, pt_chain op_le op_le h1 g1 f1 hm, db_val (de_chain h2 g2 f2)⟩
@[reducible] def aStar (Ta : DT) (Tr : DAt) : DAt := fun γ P => Ta γ fun x => match x with | .lst xs => (Tr γ fun ys => P (xs ++ ys)) | .tup xs => (Tr γ fun ys => P (xs ++ ys)) | _ => False
theorem a_star {p : Pos} (ha : XE X b e Ta) (hr : XA X b es Tr) (hs : starEach (.Starred e p :: es) X.env = (true, eval e X.env) :: starEach es X.env := by rfl) : XA X b (.Starred e p :: es) (aStar Ta Tr) := by
  obtain ⟨_, h1, h2⟩ := ha; obtain ⟨_, g1, g2⟩ := hr
  refine ⟨_, StX.pa_star h1 g1 hs, fun P n t Q q => h2 _ n t _ fun v d F1 H1 x1 r1 t1 => ?_⟩
  cases r1 with
  | lst h r => exact ⟨_, _, rfl, .inr (SqL.of (x1.sub _ _ h)), g2 _ (n.to x1) t1 _ fun vs ds F2 H2 x2 r2 t2 => q _ _ F2 H2 (x1.trans x2) ((r.mono x2.grow).append r2) t2⟩
  | tup h r => exact ⟨_, _, rfl, .inl (SqT.of (x1.sub _ _ h)), g2 _ (n.to x1) t1 _ fun vs ds F2 H2 x2 r2 t2 => q _ _ F2 H2 (x1.trans x2) ((r.mono x2.grow).append r2) t2⟩
  | _ => exact t1.elim
/-! ### keywords: how they come to the parameters -/
@[reducible] def lenEq {α : Type} : List α → Nat → Bool
  | [], n => (match n with | 0 => true | _ + 1 => false)
  | _ :: r, n => (match n with | 0 => false | n + 1 => lenEq r n)
@[reducible] def getN {α : Type} : List α → Nat → Option α
  | [], _ => none
  | x :: _, 0 => some x
  | _ :: r, n + 1 => getN r n
@[reducible] def app {α : Type} : List α → List α → List α
  | [], ys => ys
  | x :: xs, ys => x :: app xs ys
@[reducible] def selGo {α : Type} (l : List α) : List Nat → List α
  | [] => []
  | i :: p => match getN l i with
    | some x => x :: selGo l p
    | none => selGo l p
@[reducible] def sel {α : Type} (n m : Nat) (p : List Nat) (us ws : List α) : List α := match lenEq us n, lenEq ws m with
  | true, true => selGo (app us ws) p
  | _, _ => []
theorem lenEq_len {α : Type} : ∀ {l : List α} {n : Nat}, lenEq l n = true → l.length = n
  | [], 0, _ => rfl
  | [], n + 1, h => by cases h
  | _ :: _, 0, h => by cases h
  | _ :: r, n + 1, h => congrArg (· + 1) (lenEq_len (l := r) h)
theorem lenEq_two {α β : Type} : ∀ {l : List α} {k : List β} {n : Nat}, l.length = k.length → lenEq l n = lenEq k n
  | [], [], 0, _ => rfl
  | [], [], n + 1, _ => rfl
  | [], _ :: _, _, h => by cases h
  | _ :: _, [], _, h => by cases h
  | _ :: _, _ :: _, 0, _ => rfl
  | _ :: r, _ :: s, n + 1, h => lenEq_two (l := r) (k := s) (Nat.succ.inj h)
theorem vals_sel {vs zs : List V} {us ws : List Value} (n m : Nat) (p : List Nat) (r : Vals vs us) (r2 : Vals zs ws) : Vals (sel n m p vs zs) (sel n m p us ws) := by
  have ra : Vals (app vs zs) (app us ws) := by
    induction r with
    | nil => exact r2
    | cons h _ ih => exact .cons h ih
  have rg : ∀ {l : List V} {k : List Value} (i : Nat), Vals l k → (∃ v u, getN l i = some v ∧ getN k i = some u ∧ RelV v u) ∨ (getN l i = none ∧ getN k i = none) := fun {l k} i h => by
    induction h generalizing i with
    | nil => exact .inr ⟨rfl, rfl⟩
    | cons h _ ih =>
      cases i with
      | zero => exact .inl ⟨_, _, rfl, rfl, h⟩
      | succ i => exact ih i
  have rs : ∀ p : List Nat, Vals (selGo (app vs zs) p) (selGo (app us ws) p) := fun p => by
    induction p with
    | nil => exact .nil
    | cons i p ih =>
      unfold selGo
      rcases rg i ra with ⟨v, u, h1, h2, h3⟩ | ⟨h1, h2⟩
      · rw [h1, h2]; exact .cons h3 ih
      · rw [h1, h2]; exact ih
  unfold sel
  rw [lenEq_two (n := n) r.length, lenEq_two (n := m) r2.length]
  cases lenEq us n <;> cases lenEq ws m <;> first | exact rs p | exact .nil
theorem rep_sel {F : Hp} {vs zs : List V} {us ws : List Dt} (n m : Nat) (p : List Nat) (r : RepL b F vs us) (r2 : RepL b F zs ws) : RepL b F (sel n m p vs zs) (sel n m p us ws) := by
  have ra : ∀ {vs : List V} {us : List Dt}, RepL b F vs us → RepL b F (app vs zs) (app us ws) := fun {vs us} r => by
    induction vs generalizing us with
    | nil => cases r; exact r2
    | cons v vs ih =>
      cases r with
      | cons h t => exact .cons h (ih t)
  have rg : ∀ {l : List V} {k : List Dt} (i : Nat), RepL b F l k → (∃ v u, getN l i = some v ∧ getN k i = some u ∧ Rep b F v u) ∨ (getN l i = none ∧ getN k i = none) := fun {l k} i h => by
    induction l generalizing i k with
    | nil => cases h; exact .inr ⟨rfl, rfl⟩
    | cons v l ih =>
      cases h with
      | cons h t =>
        cases i with
        | zero => exact .inl ⟨_, _, rfl, rfl, h⟩
        | succ i => exact ih i t
  have rs : ∀ p : List Nat, RepL b F (selGo (app vs zs) p) (selGo (app us ws) p) := fun p => by
    induction p with
    | nil => exact .nil
    | cons i p ih =>
      unfold selGo
      rcases rg i (ra r) with ⟨v, u, h1, h2, h3⟩ | ⟨h1, h2⟩
      · rw [h1, h2]; exact .cons h3 ih
      · rw [h1, h2]; exact ih
  unfold sel
  rw [lenEq_two (n := n) r.length, lenEq_two (n := m) r2.length]
  cases lenEq us n <;> cases lenEq ws m <;> first | exact rs p | exact .nil
theorem kb_mk {x qual : Str} {st : Stmt} {f : Addr} {fd : FuncData} (F : Fun K x qual st f fd) (n m : Nat) (p : List Nat) {ps ks : List Str} (hp : ps ≠ [])
    (h : ∀ (kV doc pm : Value) (an : Option Addr) (cdv ct : Value) (us ws : List Value), us.length = n → ws.length = m → bindArgs (PySem.W.fnOf x qual (defArgs st) (defBody st) (defScope st) .none kV doc pm an cdv ct) ⟨us, ks.zip ws⟩ = pure (ps.zip (sel n m p us ws))) : KBinds K fd ps ks (sel n m p) (sel n m p) := by
  obtain ⟨oc, od, kV, doc, pm, an, cdv, ct, osl, rfl, lk, hcd⟩ := F.ex
  refine ⟨fun s us ws _ hl => ?_, fun r r2 => vals_sel n m p r r2⟩
  cases h1 : lenEq us n with
  | false =>
    exfalso
    unfold sel at hl
    rw [h1] at hl
    exact hp (List.length_eq_zero_iff.mp hl.symm)
  | true =>
    cases h2 : lenEq ws m with
    | false =>
      exfalso
      unfold sel at hl
      rw [h1, h2] at hl
      exact hp (List.length_eq_zero_iff.mp hl.symm)
    | true => exact .of_eq (h kV doc pm an cdv ct us ws (lenEq_len h1) (lenEq_len h2))
/-! ### the law's own def: the bag is made, then the rest by its data -/
theorem xss_some {st : List Stmt} {T : Option Addr → DSt} (h : ∀ b, XSs X b st (T b)) : ∃ te, PSs X st te ∧ ∀ b, DS b te (T b) :=
  ⟨fun D σ H => ∃ b, (h b).ex.choose D σ H, ⟨fun pins s σ H D I ⟨b, hw⟩ => (h b).ex.choose_spec.1.run pins s σ H D I hw⟩, fun b {Fm F0 H0 F H σ γ} E n t D k => ⟨b, (h b).ex.choose_spec.2 E n t D k⟩⟩
end
/-! ### the bag: a list of the cells and four ints -/
@[reducible] def takeT : DSp := fun ds P => match ds with
  | [.bag, .int n] => 0 < n ∧ n < 1073741824 ∧ ∀ r : Int, 0 ≤ r → r < n → P (.int r)
  | _ => False
def bagD (cs : List Int) (i v m k : Int) : List Dt := [.lst (cs.map Dt.int), .int i, .int v, .int m, .int k]
section
variable {P : Program} {w : World} {K : PySem.W.Frag} {mg : Str → Option Value} {base : Heap} {a : Addr}
theorem repL_of_ints {b : Option Addr} {F : Hp} : ∀ ns : List Int, RepL b F (ns.map V.int) (ns.map Dt.int)
  | [] => .nil
  | n :: ns => .cons (.int n) (repL_of_ints ns)
def TakeEnd (a : Addr) (cs : List Int) (n : Int) (γ : Gm) (d : Dt) : Prop := ∃ (i' : Nat) (v' m' z' r : Int), gat γ 0 = .own a (bagD cs i' v' m' z') ∧ 0 ≤ m' ∧ m' < 2147483563 ∧ d = .int r ∧ 0 ≤ r ∧ r < n
theorem takeEnd {a : Addr} {cs : List Int} {n : Int} {γ : Gm} (i : Nat) {v m z r : Int} (h : gat γ 0 = .own a (bagD cs i v m z)) (h1 : 0 ≤ m) (h2 : m < 2147483563) (h3 : 0 ≤ r) (h4 : r < n) : TakeEnd a cs n γ (.int r) := ⟨i, v, m, z, r, h, h1, h2, rfl, h3, h4⟩
theorem fn_take {x qual : Str} {st : Stmt} {f : Addr} {fd : FuncData} {p1 p2 p3 p4 p5 : Str} {k : Nat} (F : Fun K x qual st f fd) (S : FnScope [p1, p2, p3, p4, p5] [p1, p2] (defScope st))
    (hbody : ∀ (X : Cx) (outer : List Env) (cdv : Value) (A : Around) (s : Shared) (H : Hp) (E : L2.XK), X = (cxOf CX0 P w K mg base [p1, p2, p3, p4, p5] qual (defScope st) f cdv A outer s H E).nox → Room k X.A → ∃ T', XSs (cxOf CX0 P w K mg base [p1, p2, p3, p4, p5] qual (defScope st) f cdv A outer s H E).nox none (defBody st) T' ∧
      ∀ (cs : List Int) (i : Nat) (v m z n : Int), cs.length ≤ 63 → 0 ≤ m → m < 2147483563 → 0 < n → n < 1073741824 →
        T' { nx := fun _ => False, rt := TakeEnd a cs n } [.own a (bagD cs i v m z), .val (.int n), .un, .un, .un]) :
    FnOk P w K mg base CX0 (k + 1) f fd [p1, p2] (spD (some a) 2 takeT) := by
  refine F.ok S (fun vs H Q E h => ?_) (fun cdv A outer s H vs Q E hr h => ?_)
  · obtain ⟨F0, ds, R, h1, h2, h3, _⟩ := h
    rw [h2.length, h3] <;> rfl
  · obtain ⟨F0, ds, R, h1, h2, h3, h4, h5⟩ := h
    obtain ⟨T', ⟨t, t1, t2⟩, t3⟩ := hbody _ outer cdv A s H E rfl hr
    cases h2 with
    | nil => exact h4.elim
    | cons ra rb =>
      cases rb with
      | nil => cases ra <;> exact h4.elim
      | cons rb rc =>
        cases rc with
        | cons _ _ => cases h3
        | nil =>
          cases ra <;> first | exact h4.elim | skip
          cases rb <;> first | exact h4.elim | skip
          rename_i a' ea n
          cases ea
          obtain ⟨n0, n1, hR⟩ := h4
          obtain ⟨hs, b0, c, cs, i, v, m, z, hc, hb, m0, m1, hl⟩ := h1
          let F1 : Hp := fun q => if q = c then some (.lst (cs.map V.int)) else none
          have nc : c ≠ a := fun q => by
            rw [q, b0] at hc
            cases hc
          -- the entry without the bag, its cells alone known
          have f1c : F1 c = some (.lst (cs.map V.int)) := if_pos rfl
          have f1n : ∀ q, q ≠ c → F1 q = none := fun q hq => if_neg hq
          have f1s : Sub F1 H := fun q o hq => by
            by_cases e : q = c
            · subst e; rw [f1c] at hq; cases hq; exact hs _ _ hc
            · rw [f1n q e] at hq; cases hq
          have f1a : F1 a = none := f1n a nc.symm
          have ok0 : Ok none F1 (less H a) := ⟨fun q o hq => by rw [less_ne (ne_of_none hq f1a)]; exact f1s q o hq, trivial⟩
          have ext0 : Ext none F1 (less H a) F1 H := ⟨fun q o _ hq => less_sub q o hq, Sub.refl _, f1s, fun _ _ _ => rfl, trivial, fun _ _ _ e => nomatch e⟩
          have nv : Nv none F1 F1 (less H a) F1 H (L2.start [p1, p2, p3, p4, p5] [.ref a, .int n]) [.own a (bagD cs i v m z), .val (.int n), .un, .un, .un] := by
            refine ⟨ok0, Sub.refl _, ext0, rfl, fun j => ?_, fun j l p q xs ys hj hl' _ => ?_⟩
            · match j with
              | 0 => exact ⟨_, rfl, hb, .cons (.lst f1c (repL_of_ints cs)) (.cons (.int _) (.cons (.int _) (.cons (.int _) (.cons (.int _) .nil)))), f1a, less_at, fun q => nomatch q⟩
              | 1 => exact ⟨_, rfl, .int n⟩
              | 2 => exact True.intro
              | 3 => exact True.intro
              | 4 => exact True.intro
              | j + 5 => exact True.intro
            · have z0 : ∀ (j : Nat) (p : Addr) (xs : List Dt), gat [.own a (bagD cs i v m z), .val (.int n), .un, .un, .un] j = .own p xs → j = 0 := fun j p xs hj => by
                match j, hj with
                | 0, _ => rfl
                | 1, h => cases h
                | 2, h => cases h
                | 3, h => cases h
                | 4, h => cases h
                | j + 5, h => cases h
              rw [z0 j p xs hj, z0 l q ys hl']
          refine ⟨t, t1, t2 _ nv (t3 cs i v m z n hl m0 m1 n0 n1) _ ⟨fun _ r => r.elim, ?_, fun _ r => r.elim, fun _ r => r.elim⟩⟩
          rintro F' H' σ γ u d n' r ⟨i', v', m', z', rr, hg, q0, q1, rfl, r0, r1⟩
          cases r
          -- the bag is still the first slot's list; where it stands is where it stood
          have hsl := n'.slot 0
          rw [hg] at hsl
          obtain ⟨ws, g1, g2, g3, g4, g5, g6⟩ := hsl
          have x := n'.ext
          -- its first item is the cells' list still: what holds the cells in F' is a list of the same ints
          cases g3 with
          | cons q1' q2' =>
            cases q2' with
            | cons q2' q3' =>
              cases q3' with
              | cons q3' q4' =>
                cases q4' with
                | cons q4' q5' =>
                  cases q5' with
                  | cons q5' q6' =>
                    cases q6'
                    cases q1' with
                    | @lst c1 vs1 _ hc' rc' =>
                      cases q2'
                      cases q3'
                      cases q4'
                      cases q5'
                      cases repL_ints rc'
                      have c1h : c1 = c ∨ H c1 = none := by
                        by_cases e : c1 = c
                        · exact .inl e
                        · right
                          cases w : H c1 with
                          | none => rfl
                          | some o =>
                            have na : c1 ≠ a := fun e => by rw [e, g4] at hc'; cases hc'
                            have := x.new c1 o (by rw [less_ne na]; exact w)
                            rw [hc', f1n c1 e] at this
                            cases this
                      let F2 : Hp := fun q => match F0 q with
                        | some o => some o
                        | none => F' q
                      have f2s : ∀ q o, F0 q = some o → F2 q = some o := fun q o h => by
                        show (match F0 q with | some o => some o | none => F' q) = _
                        rw [h]
                      have f2n : ∀ q, F0 q = none → F2 q = F' q := fun q h => by
                        show (match F0 q with | some o => some o | none => F' q) = _
                        rw [h]
                      have h1c : F2 c1 = some (.lst (cs.map V.int)) := by
                        rcases c1h with e | e
                        · rw [e]; exact f2s _ _ hc
                        · rw [f2n c1 (by cases w : F0 c1 with | none => rfl | some o => rw [hs _ _ w] at e; cases e)]
                          rw [hc', repL_ints rc']
                      have f2a : F2 a = none := by rw [f2n a b0]; exact g4
                      refine h5 _ _ F2 H' ⟨fun p o np hp => x.keep p o (fun e => nomatch e) (by rw [less_ne (fun e => np (congrArg some e.symm))]; exact hp), fun q o h => f2s q o h, fun q o h => ?_, fun p o hp => ?_, ⟨f2a, c1, cs, i', v', m', z', h1c, g2, q0, q1, hl⟩, fun p c' r' ep hp => ?_⟩ (.int rr) (hR rr r0 r1)
                      · cases w : F0 q with
                        | none => rw [f2n q w] at h; exact x.sub q o h
                        | some u =>
                          rw [f2s q u w] at h
                          have e3 := Option.some.inj h
                          rw [← e3]
                          exact x.keep q u (fun e => nomatch e) (by rw [less_ne (ne_of_none w b0)]; exact hs q u w)
                      · cases w : F0 p with
                        | some u => exact f2s p u w
                        | none =>
                          rw [f2n p w]
                          by_cases ep : p = a
                          · rw [ep]; exact g4
                          · rw [x.new p o (by rw [less_ne ep]; exact hp)]
                            exact f1n p fun e => by rw [e, hc] at w; cases w
                      · cases ep
                        rw [hb] at hp
                        cases hp
                        exact ⟨c1, _, g2, c1h⟩
end
/-! ### comparisons as tests -/
section
variable {X : Cx} {b : Option Addr} {e e1 e2 e3 tg : Expr} {es : List Expr} {pos : Pos}
theorem t_op {op : CmpOp} {r : R2} {T} (ho : OpR X (compareOp op) r) (h : D2 b r T) (hm : behindInMarks op e2 = false) (ha : XE X b e1 Ta) (hb : XE X b e2 Tb) : XT X b (.Compare e1 [op] [e2] pos) (tB1 (d2 T Ta Tb)) := by
  obtain ⟨_, h1, h2⟩ := ha; obtain ⟨_, g1, g2⟩ := hb
  exact ⟨_, pt_cmpR ho h1 g1 hm, db_val (de_op h h2 g2)⟩
theorem t_lt (ha : XE X b e1 Ta) (hb : XE X b e2 Tb) : XT X b (.Compare e1 [.Lt] [e2] pos) (tB1 (d2 (vBl fun i j => decide (i < j)) Ta Tb)) := t_op op_lt (d2_I0 fun i j _ => .bl _) (nomark _) ha hb
theorem t_le (ha : XE X b e1 Ta) (hb : XE X b e2 Tb) : XT X b (.Compare e1 [.LtE] [e2] pos) (tB1 (d2 (vBl fun i j => decide (i ≤ j)) Ta Tb)) := t_op op_le (d2_I0 fun i j _ => .bl _) (nomark _) ha hb
theorem t_gt (ha : XE X b e1 Ta) (hb : XE X b e2 Tb) : XT X b (.Compare e1 [.Gt] [e2] pos) (tB1 (d2 (vBl fun i j => decide (j < i)) Ta Tb)) := t_op op_gt (d2_I0 fun i j _ => .bl _) (nomark _) ha hb
theorem t_ge (ha : XE X b e1 Ta) (hb : XE X b e2 Tb) : XT X b (.Compare e1 [.GtE] [e2] pos) (tB1 (d2 (vBl fun i j => decide (j ≤ i)) Ta Tb)) := t_op op_ge (d2_I0 fun i j _ => .bl _) (nomark _) ha hb
theorem t_eq (hu : X.A.units + 64 < cLine) (ha : XE X b e1 Ta) (hb : XE X b e2 Tb) : XT X b (.Compare e1 [.Eq] [e2] pos) (tB1 (d2 (vEq false) Ta Tb)) := t_op (op_eq.or (op_eqD hu)) d2_eqD (nomark _) ha hb
theorem t_ne (hu : X.A.units + 64 < cLine) (ha : XE X b e1 Ta) (hb : XE X b e2 Tb) : XT X b (.Compare e1 [.NotEq] [e2] pos) (tB1 (d2 (vEq true) Ta Tb)) := t_op (op_ne.or (op_neD hu)) d2_neD (nomark _) ha hb
theorem t_in (ha : XE X b e1 Ta) (hb : XE X b e2 Tb) (hm : behindInMarks .In e2 = false := by rfl) : XT X b (.Compare e1 [.In] [e2] pos) (tB1 (d2 (vIn false) Ta Tb)) := t_op op_in_seq d2_in hm ha hb
theorem t_notIn (ha : XE X b e1 Ta) (hb : XE X b e2 Tb) (hm : behindInMarks .NotIn e2 = false := by rfl) : XT X b (.Compare e1 [.NotIn] [e2] pos) (tB1 (d2 (vIn true) Ta Tb)) := t_op op_notIn_seq d2_in hm ha hb
theorem t_isN {j p2} (ha : XE X b e1 Ta) : XT X b (.Compare e1 [.Is] [.Constant .none j p2] pos) (tB1 (dIsN Ta)) := by
  obtain ⟨_, h1, h2⟩ := ha
  exact ⟨_, pt_cmp (pc_isN h1) (by rfl), db_val (te := tIsN _) fun P n t Q q => h2 _ n t _ fun v d F1 H1 x1 r1 t1 => q _ _ F1 H1 x1 (by rw [rep_non r1]; exact .bl _) t1⟩
theorem t_notN {j p2} (ha : XE X b e1 Ta) : XT X b (.Compare e1 [.IsNot] [.Constant .none j p2] pos) (tB1 (dNotN Ta)) := by
  obtain ⟨_, h1, h2⟩ := ha
  exact ⟨_, pt_cmp (pc_notN h1) (by rfl), db_val (te := tNotN _) fun P n t Q q => h2 _ n t _ fun v d F1 H1 x1 r1 t1 => q _ _ F1 H1 x1 (by rw [rep_non r1, nB_eq]; exact .bl _) t1⟩
theorem t_isB (ha : XE X b e1 Ta) (hb : XE X b e2 Tb) : XT X b (.Compare e1 [.Is] [e2] pos) (tB1 (d2 (vIsB false) Ta Tb)) := t_op op_isBl d2_isB (nomark _) ha hb
theorem t_notB (ha : XE X b e1 Ta) (hb : XE X b e2 Tb) : XT X b (.Compare e1 [.IsNot] [e2] pos) (tB1 (d2 (vIsB true) Ta Tb)) := t_op op_notBl d2_notB (nomark _) ha hb
end
/-! ### a word behind a statement; and, chains by their values -/
section
variable {X : Cx} {b : Option Addr}
def tCutS (t : TS) : TS := fun D σ H => ∃ Mid : L2.St → Hp → Prop, t { D with nx := Mid } σ H ∧ ∀ σ' H', Mid σ' H' → D.nx σ' H'
theorem ps_cut {st : Stmt} {t : TS} (h1 : PS X st t) : PS X st (tCutS t) := by
  refine ⟨fun pins s σ H D I h => ?_⟩
  obtain ⟨Mid, hm, hu⟩ := h
  refine thn (h1.run pins s σ H { D with nx := Mid } I hm) fun f s1 q => ?_
  cases f with
  | next =>
    obtain ⟨σ', H', I', q⟩ := q
    exact ⟨σ', H', I', hu σ' H' q⟩
  | ret v => exact q
  | brk => exact q
  | cont => exact q
@[reducible] def sCut (t : DSt) : DSt := fun E γ => Word (∃ M : Gm → Prop, t { E with nx := M } γ ∧ ∀ γ', M γ' → E.nx γ')
theorem s_cut {st : Stmt} {T : DSt} (h : XS X b st T) : XS X b st (sCut T) := by
  obtain ⟨_, h1, h2⟩ := h
  refine ⟨_, ps_cut h1, fun {Fm F0 H0 F H σ γ} E n t D k => ?_⟩
  obtain ⟨M, t1, t2⟩ := t
  exact ⟨fun σ' H' => ∃ F' γ', Nv b Fm F0 H0 F' H' σ' γ' ∧ M γ', h2 _ n t1 _ ⟨fun n' m => ⟨_, _, n', m⟩, k.rt, k.bk, k.ct⟩, fun σ' H' ⟨F', γ', n', m⟩ => k.nx n' (t2 γ' m)⟩
end
theorem dAnd_go {Ta Tb : DT} {γ : Gm} {P : Dt → Prop} (h : Ta γ fun x => match x with | .bl true => Tb γ P | .bl false => P (.bl false) | _ => False) : dAnd Ta Tb γ P := h
theorem dOr_go {Ta Tb : DT} {γ : Gm} {P : Dt → Prop} (h : Ta γ fun x => match x with | .bl false => Tb γ P | .bl true => P (.bl true) | _ => False) : dOr Ta Tb γ P := h
theorem dAnd_val {Ta Tb : DT} {γ : Gm} {P : Dt → Prop} (a c : Bool) (ha : ∀ Q : Dt → Prop, Q (.bl a) → Ta γ Q) (hb : ∀ Q : Dt → Prop, Q (.bl c) → Tb γ Q) (h : P (.bl (a && c))) : dAnd Ta Tb γ P := by
  refine ha _ ?_
  cases a with
  | true => exact hb _ h
  | false => exact h
theorem dOr_val {Ta Tb : DT} {γ : Gm} {P : Dt → Prop} (a c : Bool) (ha : ∀ Q : Dt → Prop, Q (.bl a) → Ta γ Q) (hb : ∀ Q : Dt → Prop, Q (.bl c) → Tb γ Q) (h : P (.bl (a || c))) : dOr Ta Tb γ P := by
  refine ha _ ?_
  cases a with
  | true => exact h
  | false => exact hb _ h
theorem dChI_go {p p' : Int → Int → Bool} {Ta Tb Tc : DT} {γ : Gm} {P : Dt → Prop} (h : Ta γ fun x => Tb γ fun y => match x, y with | .int i, .int j => (match p i j with | true => (Tc γ fun z => (match z with | .int k => P (.bl (p' j k)) | _ => False)) | false => P (.bl false)) | _, _ => False) : dChI p p' Ta Tb Tc γ P := h
theorem dChI_val {p p' : Int → Int → Bool} {Ta Tb Tc : DT} {γ : Gm} {P : Dt → Prop} (i j k : Int) (ha : ∀ Q : Dt → Prop, Q (.int i) → Ta γ Q) (hb : ∀ Q : Dt → Prop, Q (.int j) → Tb γ Q) (hc : ∀ Q : Dt → Prop, Q (.int k) → Tc γ Q) (h : P (.bl (p i j && p' j k))) : dChI p p' Ta Tb Tc γ P := by
  refine ha _ (hb _ ?_)
  show (match p i j with | true => _ | false => _)
  cases e : p i j with
  | true => rw [e] at h; exact hc _ h
  | false => rw [e] at h; exact h
end DL

namespace DL
open PySem PySem.Spec PyProof.Rows L2
/-! ### the bag is made -/
def spBag (K : PySem.W.Frag) : Sp := fun vs H Q _ => ∃ (a : Addr) (ns : List Int), vs = [.ref a] ∧ SqL K H a (ns.map V.int) ∧ ns.length ≤ 63 ∧
  ∀ (p c : Addr) (cs : List Int) (m : Int) (H' : Hp), cs.length ≤ 63 → 0 ≤ m → m < 2147483563 → H' c = some (.lst (cs.map V.int)) → H' p = some (.lst [.ref c, .int 0, .int 0, .int m, .int 0]) → Q (.ref p) H'
theorem cut63 (xs : List V) (h : xs.length ≤ 63) : cutV xs none (some 63) = xs := by
  unfold cutV
  rw [HT.sIx_none, show HT.sIx xs.length xs.length (some 63) = min 63 xs.length from HT.sIx_nat xs.length xs.length 63]
  rw [List.drop_zero, Nat.sub_zero, List.take_of_length_le (by omega)]
section
variable {K : PySem.W.Frag} {σ : L2.St} {H : Hp} {D : Ends}
def rInt1 : List V → Hp → VK → Prop := fun xs H Q => (∃ i, xs = [.int i] ∧ Q (.int i) H) ∨ ∃ k, xs = [.bl k] ∧ Q (.int (if k then 1 else 0)) H
def rLen1 (K : PySem.W.Frag) : List V → Hp → VK → Prop := fun xs H Q => ∃ x n, xs = [x] ∧ LenV K x H n ∧ Q (.int n) H
theorem rc_int {i : Int} : Evl.RC rInt1 [.int i] H (.int i) := fun H1 _ Q q => .inl ⟨i, rfl, q H1 (Evl.Ex.refl _)⟩
/-- the reading of the bag's making -/
theorem read_bag {a : Addr} {ns : List Int} {c1 c2 c3 c4 c5 : Int} (hS : SqL K H a (ns.map V.int)) (hl : ns.length ≤ 63) (h4 : c4 = 2147483563) (h5 : c5 = 63) (h1 : 0 ≤ c1 ∧ c1 < 1000000000) (h2 : 0 ≤ c2 ∧ c2 < 1000000) {Q : VK} {nx : L2.St → Hp → Prop}
    (q : ∀ (p c : Addr) (cs : List Int) (m : Int) (H' : Hp), cs.length ≤ 63 → 0 ≤ m → m < 2147483563 → H' c = some (.lst (cs.map V.int)) → H' p = some (.lst [.ref c, .int 0, .int 0, .int m, .int 0]) → Q (.ref p) H') :
    tSeq (tAsg (tLc (iList K (tSl (rSlL K) (tVar 0) tNoPart (tPart (tC (.int c5))))) (gName 3) tYes (tCB rInt1 (tCons (tVar 3) tNil)) [3]) (gName 1))
      (tSeq (tAsg (tOp (rI0 fun i j => .int (i + j)) (tC (.int c1)) (tOp (rI CMul fun i j => .int (i * j)) (tC (.int c2)) (tCB (rLen1 K) (tCons (tVar 1) tNil)))) (gName 2))
      (tSeq (tFor (iList K (tVar 1)) (gName 3) (tAsg (tOp (rI (fun _ j => 0 < j) fun i j => .int (i % j)) (tCB rInt1 (tCons (tOp (rI0 fun i j => .int (i + j)) (tOp (rI CMul fun i j => .int (i * j)) (tVar 2) (tC (.int c3))) (tVar 3)) tNil)) (tC (.int c4))) (gName 2)))
      (tRet (tLst (tCons (tVar 1) (tCons (tC (.int 0)) (tCons (tC (.int 0)) (tCons (tVar 2) (tCons (tC (.int 0)) tNil)))))))) ) { nx := nx, rt := Q } [some (.ref a), none, none, none] H := by
  subst h4 h5
  have hv : (ns.map V.int).length ≤ 63 := by rw [List.length_map]; exact hl
  refine Evl.q_asgL (Evl.el_lcNL (xs := ns.map V.int) (fun _ => true) (fun i => .int (ns.getD i 0)) ?_ (by omega) (fun x => rfl) (fun i x H1 _ _ H2 e2 Q' q' => q' H2 (Evl.Ex.refl _)) (fun i x H1 e hx _ => ?_)) fun c H1 hc e1 hh1 => ?_
  · have := Evl.el_sl (K := K) (te := tVar 0) (tl := tNoPart) (th := tPart (tC (.int 63))) (σ := [some (V.ref a), none, none, none]) (H := H) (Evl.ev_var (v := .ref a) rfl) Evl.eo_none (Evl.eo_some Evl.ev_c) hS
    rw [cut63 _ hv] at this
    exact this
  · have ex : x = .int (ns.getD i 0) := by
      rw [List.getElem?_map] at hx
      cases e : ns[i]? with
      | none => rw [e] at hx; cases hx
      | some z =>
        rw [e] at hx
        rw [List.getD_eq_getElem?_getD, e]
        exact (Option.some.inj hx).symm
    subst ex
    exact Evl.ev_cb (Evl.ea_cons (Evl.ev_var rfl) Evl.ea_nil) rc_int
  · -- what the list holds
    have h1' : H1 c = some (.lst (ns.map V.int)) := by
      rw [hh1]
      congr 2
      unfold Evl.given
      rw [List.filter_eq_self.mpr (fun _ _ => rfl)]
      apply List.ext_getElem?
      intro i
      rw [List.getElem?_map, List.getElem?_map]
      by_cases hi : i < ns.length
      · rw [List.getElem?_range (by rw [List.length_map]; exact hi), List.getElem?_eq_getElem hi]
        show some (V.int (ns.getD i 0)) = some (V.int ns[i])
        rw [List.getD_eq_getElem?_getD, List.getElem?_eq_getElem hi] <;> rfl
      · rw [List.getElem?_eq_none (by rw [List.length_range, List.length_map]; omega), List.getElem?_eq_none (by omega)] <;> rfl
    have s1 : SqL K H1 c (ns.map V.int) := SqL.of h1'
    refine Evl.q_asg (v := .int (c1 + c2 * ((ns.map V.int).length : Int))) (Evl.ev_op Evl.ev_c (Evl.ev_op Evl.ev_c (z := .int (c2 * ((ns.map V.int).length : Int))) (Evl.ev_cb (z := .int ((ns.map V.int).length : Int)) (Evl.ea_cons (Evl.ev_var (v := .ref c) rfl) Evl.ea_nil) fun H2 e2 Q' q' => ⟨_, _, rfl, .inl ⟨_, Evl.ex_l e2 s1, rfl⟩, q' H2 (Evl.Ex.refl _)⟩) (Evl.rv_I (.inl (by omega)))) Evl.rv_I0) fun H2 e2 => ?_
    have s2 : SqL K H2 c (ns.map V.int) := Evl.ex_l e2 s1
    refine Evl.q_forLn (xs := ns.map V.int) (Evl.ev_var (v := .ref c) rfl) s2 (fun i σ' H' => Evl.Ex H2 H' ∧ ∃ (m : Int) (y : Option V), σ' = [some (.ref a), some (.ref c), some (.int m), y] ∧ 0 ≤ m ∧ m < 2147483563) (fun H3 e3 => ⟨e3, _, none, rfl, ?_⟩) (fun i σ' H' _ p => Evl.ex_l p.1 s2) ?_ ?_
    · have h7 : (0 : Int) ≤ ((ns.map V.int).length : Int) := Int.natCast_nonneg _
      have h8 : ((ns.map V.int).length : Int) ≤ 63 := by omega
      have h9 := Int.mul_nonneg h2.1 h7
      have h10 : c2 * ((ns.map V.int).length : Int) ≤ 1000000 * 63 := Int.mul_le_mul (by omega) h8 h7 (by decide)
      omega
    · rintro i x σ' H' hx ⟨e3, m, y, rfl, m0, m1⟩
      have ex : ∃ z, x = V.int z := by
        rw [List.getElem?_map] at hx
        cases e : ns[i]? with
        | none => rw [e] at hx; cases hx
        | some z => rw [e] at hx; exact ⟨z, (Option.some.inj hx).symm⟩
      obtain ⟨z, rfl⟩ := ex
      have mb : -(2 ^ 64) < m ∧ m < 2 ^ 64 := by omega
      refine Evl.s_asg (v := .int ((m * c3 + z) % 2147483563)) (Evl.ev_op (Evl.ev_cb (z := .int (m * c3 + z)) (Evl.ea_cons (Evl.ev_op (Evl.ev_op (Evl.ev_var (v := .int m) rfl) Evl.ev_c (Evl.rv_I (.inl mb))) (Evl.ev_var (v := .int z) rfl) Evl.rv_I0) Evl.ea_nil) rc_int) Evl.ev_c (Evl.rv_I (by decide))) fun H4 e4 => ?_
      refine ⟨e3.trans e4, _, _, rfl, ⟨Int.emod_nonneg _ (by decide), Int.emod_lt_of_pos _ (by decide)⟩⟩
    · rintro σ' H' ⟨e3, m, y, rfl, m0, m1⟩
      refine Evl.s_retL (xs := [.ref c, .int 0, .int 0, .int m, .int 0]) (Evl.el_lst (Evl.ea_cons (Evl.ev_var rfl) (Evl.ea_cons Evl.ev_c (Evl.ea_cons Evl.ev_c (Evl.ea_cons (Evl.ev_var rfl) (Evl.ea_cons Evl.ev_c Evl.ea_nil))))) (by show 5 ≤ 100000; decide)) fun p H4 _ e4 h4 => ?_
      exact q p c ns m H4 hl m0 m1 (e4 c _ (e3 c _ (e2 c _ h1'))) h4
end
end DL

namespace DL
open PySem PySem.Spec PyProof.Rows L2
theorem law_rest {X : Cx} {st : List Stmt} {T : DSt} (h : ∀ a : Addr, XSs X (some a) st T) : ∃ te, PSs X st te ∧ ∀ a, DS (some a) te T :=
  ⟨fun D σ H => ∃ a, (h a).ex.choose D σ H, ⟨fun pins s σ H D I ⟨a, hw⟩ => (h a).ex.choose_spec.1.run pins s σ H D I hw⟩, fun a {Fm F0 H0 F H σ γ} E n t D k => ⟨a, (h a).ex.choose_spec.2 E n t D k⟩⟩
theorem law_go {te : TS} {T : DSt} {γ : Gm} (t2 : ∀ a, DS (some a) te T) {p c : Addr} {cs : List Int} {m : Int} {H' : Hp} (hcs : cs.length ≤ 63) (m0 : 0 ≤ m) (m1 : m < 2147483563) (hc : H' c = some (.lst (cs.map V.int))) (hp : H' p = some (.lst [.ref c, .int 0, .int 0, .int m, .int 0]))
    {σ : L2.St} {N : List Str} {i : Nat} {Q : VK} {nx : L2.St → Hp → Prop} (hσ : σ.length = N.length) (hγ : gset (List.replicate N.length .un) i (.val .bag) = γ) (q : ∀ H', Q (.bl true) H') (h : T { nx := fun _ => False, rt := fun _ d => d = .bl true } γ) : te { nx := nx, rt := Q } (σ.set i (some (.ref p))) H' := by
  have nc : p ≠ c := fun e => by
    rw [e, hc] at hp
    cases cs with
    | nil => cases hp
    | cons z r => cases hp
  let F : Hp := fun q => if q = c then some (.lst (cs.map V.int)) else none
  have fc : F c = some (.lst (cs.map V.int)) := if_pos rfl
  have fp : F p = none := if_neg nc
  have ok : Ok (some p) F H' := ⟨(fun a o e => by
    by_cases z : a = c
    · subst z; rw [fc] at e; cases e; exact hc
    · rw [show F a = none from if_neg z] at e; cases e), fp, c, cs, 0, 0, m, 0, fc, hp, m0, m1, hcs⟩
  have gun : ∀ (n j : Nat), gat (List.replicate n .un) j = .un := fun n => by
    induction n with
    | zero => intro j; rfl
    | succ n ih =>
      intro j
      cases j with
      | zero => rfl
      | succ j => exact ih j
  have n0 : Nv (some p) F F H' F H' σ (List.replicate N.length .un) := ⟨ok, Sub.refl _, Ext.refl ok, by rw [List.length_replicate]; exact hσ, fun j => by rw [gun]; exact True.intro, fun j k l m xs ys h1 _ _ => by rw [gun] at h1; cases h1⟩
  have n1 := n0.set i (v := .ref p) (d := .bag) (.bag rfl)
  rw [hγ] at n1
  exact t2 p _ n1 h _ ⟨fun _ r => r.elim, fun n r e => by
    cases (show _ = Dt.bl true from e)
    cases r
    exact q _, fun _ r => r.elim, fun _ r => r.elim⟩
/-! ### drawn items, equal data -/
@[reducible] def ofT : DSp := fun ds P => match ds with
  | [.bag, .lst xs] => 0 < xs.length ∧ xs.length ≤ 100000 ∧ ∀ d, d ∈ xs → P d
  | [.bag, .tup xs] => 0 < xs.length ∧ xs.length ≤ 100000 ∧ ∀ d, d ∈ xs → P d
  | [.bag, .str z] => 0 < z.length ∧ z.length ≤ 100000 ∧ ∀ c, c ∈ z.cps.toList → P (.str ⟨#[c]⟩)
  | _ => False
mutual
def dep : Dt → Nat
  | .lst xs => depL xs + 1
  | .tup xs => depL xs + 1
  | _ => 1
def depL : List Dt → Nat
  | [] => 0
  | x :: xs => max (dep x) (depL xs)
end
mutual
/-- data that == goes over, lists of at most 100000 -/
def okS : Dt → Bool
  | .lst xs => decide (xs.length ≤ 100000) && okSL xs
  | .tup xs => decide (xs.length ≤ 100000) && okSL xs
  | .ins _ _ => false
  | .dT _ => false
  | .bag => false
  | _ => true
def okSL : List Dt → Bool
  | [] => true
  | x :: xs => okS x && okSL xs
end
@[reducible] def sameT (n : Nat) : DSp := fun ds P => match ds with
  | [x, y] => x = y ∧ okS y = true ∧ dep y ≤ n ∧ P (.bl true)
  | _ => False
theorem dep_pos : ∀ d : Dt, 1 ≤ dep d
  | .lst xs => by unfold dep; omega
  | .tup xs => by unfold dep; omega
  | .non => by unfold dep; omega
  | .bl _ => by unfold dep; omega
  | .int _ => by unfold dep; omega
  | .str _ => by unfold dep; omega
  | .ins _ _ => by unfold dep; omega
  | .dT _ => by unfold dep; omega
  | .bag => by unfold dep; omega
theorem depL_mem : ∀ {xs : List Dt} {x : Dt}, x ∈ xs → dep x ≤ depL xs
  | y :: ys, x, h => by
    show dep x ≤ max (dep y) (depL ys)
    rcases List.mem_cons.mp h with e | h
    · rw [e]; omega
    · have := depL_mem h; omega
theorem okSL_mem : ∀ {xs : List Dt} {x : Dt}, okSL xs = true → x ∈ xs → okS x = true
  | y :: ys, x, k, h => by
    have k2 : (okS y && okSL ys) = true := k
    rw [Bool.and_eq_true] at k2
    rcases List.mem_cons.mp h with e | h
    · rw [e]; exact k2.1
    · exact okSL_mem k2.2 h
section
variable {P : Program} {w : World} {K : PySem.W.Frag} {mg : Str → Option Value} {base : Heap} {b : Option Addr}
theorem sameT_zero {k : Nat} {f : Addr} {fd : FuncData} {p1 p2 : Str} : FnOk P w K mg base CX0 k f fd [p1, p2] (spD b 2 (sameT 0)) := by
  have no : ∀ vs H Q E, ¬ spD b 2 (sameT 0) vs H Q E := fun vs H Q E h => by
    obtain ⟨F, ds, R, _, _, hl, ht, _⟩ := h
    match ds, ht with
    | [x, y], ht =>
      obtain ⟨_, _, h0, _⟩ := ht
      have := dep_pos y
      omega
  exact ⟨fun vs H Q E h => (no vs H Q E h).elim, fun A outer s H args us vs Q E _ _ _ _ h => (no vs H Q E h).elim⟩
end
theorem atI_mem {α : Type} {xs : List α} {r : Int} (h0 : 0 ≤ r) (h1 : r < (xs.length : Int)) : ∃ d, d ∈ xs ∧ atI xs r = some d := by
  obtain ⟨n, rfl⟩ := Int.eq_ofNat_of_zero_le h0
  have hn : n < xs.length := by omega
  exact ⟨xs[n], List.getElem_mem hn, atI_nat (List.getElem?_eq_getElem hn)⟩
/-- a comprehension that gives f of each item -/
theorem lc_map {TI : DAt} {Tg : Dt → Gm → (Gm → Prop) → Prop} {Tt : DBt} {Te : DT} {vs : List Nat} {γ : Gm} {R : List Dt → Prop} (f : Dt → Dt)
    (h : TI γ fun xs => xs.length ≤ 100000 ∧ (∀ d, d ∈ xs → ∀ Q : Dt → Prop, Q (f d) → Tg d (gwipe γ vs) fun γ2 => Tt γ2 fun c => (match c with | true => Te γ2 Q | false => False)) ∧ R (xs.map f))
    (mI : ∀ {A B : List Dt → Prop}, (∀ xs, A xs → B xs) → TI γ A → TI γ B) (mG : ∀ {d γ} {A B : Gm → Prop}, (∀ g, A g → B g) → Tg d γ A → Tg d γ B) (mT : ∀ {γ} {A B : Bool → Prop}, (∀ g, A g → B g) → Tt γ A → Tt γ B) : dLc TI Tg Tt Te vs γ R := by
  unfold dLc
  refine mI (fun xs hx => ?_) h
  obtain ⟨hz, hf, hr⟩ := hx
  refine ⟨hz, fun i acc => acc = (xs.take i).map f, rfl, fun i d acc hd ha e => ?_, fun acc _ e => ?_⟩
  · have hm := List.mem_of_getElem? hd
    refine mG (fun γ2 t => mT (fun c t => ?_) t) (hf d hm (fun y => acc ++ [y] = (xs.take (i + 1)).map f) ?_)
    · cases c with
      | true => exact t
      | false => exact t.elim
    · rw [e, List.take_add_one, hd, List.map_append] <;> rfl
  · rw [e, List.take_of_length_le (Nat.le_refl _)]
    exact hr
end DL

namespace ZN
open PySem PySem.Spec PyProof.Rows L2
/-! zip of many tuples: zip(*rows) -/
def refsFrom (B n : Nat) : List Value := (List.range n).map fun i => Value.ref (B + i)
/-- while the i-th turn is under way: j of the iterators have turned -/
structure Mid (B n k j : Nat) (f0 : Value) (f1 : Bool) (ls : Nat → Addr) (ok : Array Value → Prop) (h0 h : Heap) : Prop where
  z : h.get? (B + n + 2) = some { cls := .type "zip", dict := none, data := .fields #[f0, .bool f1, .bool false, .ref (B + n), .ref (B + n + 1)], slots := #[] }
  ti : h.get? (B + n) = some { cls := .type "tuple", data := .seq (refsFrom B n).toArray }
  to : ∃ arr : Array Value, arr.size = n ∧ ok arr ∧ h.get? (B + n + 1) = some { cls := .type "tuple", data := .seq arr }
  its : ∀ i, i < n → h.IsTupleIter (B + i) (ls i) (if i < j then k + 1 else k)
  sz : h.objs.size = h0.objs.size
  kp : ∀ c o, c < B ∨ B + n + 2 < c → h0.get? c = some o → h.get? c = some o
/-- the zip at B + n + 2 ahead of its k-th turn -/
structure ZipAt (B n k : Nat) (ls : Nat → Addr) (h : Heap) : Prop where
  z : ∃ (f0 : Value) (f1 : Bool), (f0 = .none ∨ ∃ a : Nat, f0 = rawInt a) ∧ h.get? (B + n + 2) = some { cls := .type "zip", dict := none, data := .fields #[f0, .bool f1, .bool false, .ref (B + n), .ref (B + n + 1)], slots := #[] }
  ti : h.get? (B + n) = some { cls := .type "tuple", data := .seq (refsFrom B n).toArray }
  to : ∃ arr : Array Value, arr.size = n ∧ h.get? (B + n + 1) = some { cls := .type "tuple", data := .seq arr }
  its : ∀ i, i < n → h.IsTupleIter (B + i) (ls i) k
theorem drop_cons {α : Type} {l r : List α} {x : α} {j : Nat} (h : x :: r = l.drop j) : l[j]? = some x ∧ r = l.drop (j + 1) := by
  have h1 : (l.drop j)[0]? = some x := by rw [← h]; rfl
  rw [List.getElem?_drop] at h1
  refine ⟨by simpa using h1, ?_⟩
  have h2 : (l.drop j).drop 1 = r := by rw [← h]; rfl
  rw [List.drop_drop] at h2
  exact h2.symm
theorem refs_at {B n j : Nat} {v : Value} (h : (refsFrom B n)[j]? = some v) : j < n ∧ v = .ref (B + j) := by
  unfold refsFrom at h
  rw [List.getElem?_map] at h
  by_cases hj : j < n
  · rw [List.getElem?_range hj] at h
    exact ⟨hj, (Option.some.inj h).symm⟩
  · rw [List.getElem?_eq_none (by simp; omega)] at h
    cases h
theorem refs_len (B n : Nat) : (refsFrom B n).length = n := by unfold refsFrom; simp
theorem ne_add {a b : Nat} (h : (a : Int) ≠ b) : a ≠ b := fun e => h (by rw [e])
section
variable {prog : Program} {w : World} {A : Around} {E : Value → Shared → Prop} {s : Shared} {B n k j : Nat} {ls : Nat → Addr} {f0 : Value} {f1 : Bool} {ok : Array Value → Prop} {h0 h h' : Heap}
theorem Mid.turned (m : Mid B n k j f0 f1 ls ok h0 h) (hj : j < n) (hi : h'.IsTupleIter (B + j) (ls j) (k + 1)) (sb : Heap.SameBut (B + j) h h') : Mid B n k (j + 1) f0 f1 ls ok h0 h' := by
  obtain ⟨arr, a1, a2, a3⟩ := m.to
  refine ⟨(sb.2 (B + n + 2) (ne_add (by omega))).trans m.z, (sb.2 (B + n) (ne_add (by omega))).trans m.ti, ⟨arr, a1, a2, (sb.2 (B + n + 1) (ne_add (by omega))).trans a3⟩, fun i hin => ?_, sb.1.trans m.sz, fun c o hc e => (sb.2 c (ne_add (by omega))).trans (m.kp c o hc e)⟩
  by_cases e : i = j
  · subst e
    rw [if_pos (Nat.lt_succ_self _)]
    exact hi
  · have := m.its i hin
    rw [show (if i < j + 1 then k + 1 else k) = if i < j then k + 1 else k from by by_cases q : i < j <;> simp [q] <;> omega]
    exact this.extBut sb.extBut (ne_add (by omega))
theorem Mid.mono {ok' : Array Value → Prop} (m : Mid B n k j f0 f1 ls ok h0 h) (q : ∀ a, ok a → ok' a) : Mid B n k j f0 f1 ls ok' h0 h := by
  obtain ⟨arr, a1, a2, a3⟩ := m.to
  exact ⟨m.z, m.ti, ⟨arr, a1, q _ a2, a3⟩, m.its, m.sz, m.kp⟩
/-- the j-th iterator gives its item -/
theorem Mid.next {rows : Nat → Array Value} {x : Nat → Value} {Q : Value → Shared → Prop} (m : Mid B n k j f0 f1 ls ok h0 s.heap) (hj : j < n) (hr : ∀ i, i < n → s.heap.IsTuple (ls i) (rows i)) (hx : ∀ i, i < n → (rows i)[k]? = some (x i))
    (hQ : ∀ h', Mid B n k (j + 1) f0 f1 ls ok h0 h' → Q (x j) { s with heap := h' }) : wpAny (model prog w) A (Builtin.SmallTypes.nextOf (.ref (B + j))) Q E s := by
  have hi := m.its j hj
  rw [if_neg (Nat.lt_irrefl _)] at hi
  exact RZ.nextOf_tuple_item hi (hr j hj) (hx j hj) fun h' h1 sb => hQ h' (m.turned hj h1 sb)
theorem tup_keep {rows : Nat → Array Value} (m : Mid B n k j f0 f1 ls ok h0 h) (hl : ∀ i, i < n → ls i < B) (hr : ∀ i, i < n → h0.IsTuple (ls i) (rows i)) : ∀ i, i < n → h.IsTuple (ls i) (rows i) := fun i hi => by
  obtain ⟨o, ho, r⟩ := hr i hi
  exact ⟨o, m.kp _ _ (.inl (hl i hi)) ho, r⟩
theorem Mid.wrote {f0' : Value} {f1' : Bool} (m : Mid B n k j f0 f1 ls ok h0 h) (hz : h'.get? (B + n + 2) = some { cls := .type "zip", dict := none, data := .fields #[f0', .bool f1', .bool false, .ref (B + n), .ref (B + n + 1)], slots := #[] }) (sb : Heap.SameBut (B + n + 2) h h') : Mid B n k j f0' f1' ls ok h0 h' := by
  obtain ⟨arr, a1, a2, a3⟩ := m.to
  exact ⟨hz, (sb.2 (B + n) (ne_add (by omega))).trans m.ti, ⟨arr, a1, a2, (sb.2 (B + n + 1) (ne_add (by omega))).trans a3⟩, fun i hi => (m.its i hi).extBut sb.extBut (ne_add (by omega)), sb.1.trans m.sz, fun c o hc e => (sb.2 c (ne_add (by omega))).trans (m.kp c o hc e)⟩
theorem Mid.put {x : Nat → Value} {arr : Array Value} (m : Mid B n k (j + 1) f0 f1 ls (fun _ => True) h0 h) (ha : arr.size = n) (hj : j < n) (hx : ∀ i, i < j → arr[i]? = some (x i)) (ht : h'.get? (B + n + 1) = some { cls := .type "tuple", data := .seq (arr.setIfInBounds j (x j)) }) (sb : Heap.SameBut (B + n + 1) h h') :
    Mid B n k (j + 1) f0 f1 ls (fun arr => ∀ i, i < j + 1 → arr[i]? = some (x i)) h0 h' := by
  refine ⟨(sb.2 (B + n + 2) (ne_add (by omega))).trans m.z, (sb.2 (B + n) (ne_add (by omega))).trans m.ti, ⟨arr.setIfInBounds j (x j), by simp [ha], fun i hi => ?_, ht⟩, fun i hi => (m.its i hi).extBut sb.extBut (ne_add (by omega)), sb.1.trans m.sz, fun c o hc e => (sb.2 c (ne_add (by omega))).trans (m.kp c o hc e)⟩
  by_cases e : i = j
  · subst e
    rw [Array.getElem?_setIfInBounds_self_of_lt (by omega)]
  · rw [Array.getElem?_setIfInBounds_ne (fun q => e q.symm)]
    exact hx i (by omega)
theorem zidx {l : List Value} {r : List (Value × Nat)} {x : Value × Nat} {j : Nat} (h : x :: r = (refsFrom B n).zipIdx.drop j) : j < n ∧ x = (.ref (B + j), j) ∧ r = (refsFrom B n).zipIdx.drop (j + 1) := by
  obtain ⟨ex, er⟩ := drop_cons h
  rw [List.getElem?_zipIdx] at ex
  cases hv : (refsFrom B n)[j]? with
  | none => rw [hv] at ex; cases ex
  | some u =>
    rw [hv] at ex
    obtain ⟨hj, rfl⟩ := refs_at hv
    refine ⟨hj, ?_, er⟩
    have := (Option.some.inj ex).symm
    simpa using this
theorem nil_drop {α : Type} {l : List α} {j : Nat} (h : [] = l.drop j) : l.length ≤ j := by
  have := congrArg List.length h
  rw [List.length_drop] at this
  simp at this
  omega
theorem alive {M : Model} {a : Addr} {Q : Option Obj → Shared → Prop} (h : Q (s.heap.get? a) s) : wpAny M A (loadIfAlive a) Q E s := fun _ _ _ => h
theorem arr_eq {arr : Array Value} {x : Nat → Value} (hs : arr.size = n) (h : ∀ i, i < n → arr[i]? = some (x i)) : arr.toList = (List.range n).map x := by
  apply List.ext_getElem?
  intro i
  rw [List.getElem?_map, Array.getElem?_toList]
  by_cases hi : i < n
  · rw [h i hi, List.getElem?_range hi] <;> rfl
  · rw [Array.getElem?_eq_none (by omega), List.getElem?_eq_none (by simp; omega)] <;> rfl

theorem next_item {rows : Nat → Array Value} {x : Nat → Value} {Q : Value → Shared → Prop} (hn : 0 < n) (hn2 : n ≤ 100000) (hz : ZipAt B n k ls s.heap) (hr : ∀ i, i < n → s.heap.IsTuple (ls i) (rows i)) (hl : ∀ i, i < n → ls i < B) (hx : ∀ i, i < n → (rows i)[k]? = some (x i))
    (hQ : ∀ h', ZipAt B n (k + 1) ls h' → h'.get? s.heap.objs.size = some { cls := .type "tuple", data := .seq ((List.range n).map x).toArray } → h'.objs.size = s.heap.objs.size + 1 →
      (∀ c o, c < B ∨ B + n + 2 < c → s.heap.get? c = some o → h'.get? c = some o) → Q (.ref s.heap.objs.size) { s with heap := h' }) :
    wpAny (model prog w) A (Builtin.«zip.__next__» ⟨[.ref (B + n + 2)], []⟩) (fun fin s' => ∃ v, fin = .done (.ret v) ∧ Q v s') E s := by
  obtain ⟨⟨f0, f1, hf, hzz⟩, hti, ⟨arr, ha, hto⟩, hits⟩ := hz
  show wpAny _ _ (field (.ref (B + n + 2)) 2 >>= _) _ _ _
  refine wpAny_bind (wpAny_field hzz rfl (x := .bool false) rfl ?_)
  show wpAny _ _ (field (.ref (B + n + 2)) 3 >>= _) _ _ _
  refine wpAny_bind (wpAny_field hzz rfl (x := .ref (B + n)) rfl ?_)
  refine wpAny_bind (wpAny_seqItems hti rfl ?_)
  have he : (refsFrom B n).toArray.isEmpty = false := by
    rw [List.isEmpty_toArray]
    cases hh : refsFrom B n with
    | nil => have := refs_len B n; rw [hh] at this; simp at this; omega
    | cons _ _ => rfl
  simp only [he, Bool.false_eq_true, if_false]
  show wpAny _ _ (Builtin.SmallTypes.ownedTupleIsFree (.ref (B + n + 2)) >>= _) _ _ _
  have Z0 : Mid B n k 0 f0 f1 ls (fun _ => True) s.heap s.heap := ⟨hzz, hti, ⟨arr, ha, trivial, hto⟩, fun i hi => by rw [if_neg (Nat.not_lt_zero _)]; exact hits i hi, rfl, fun _ _ _ e => e⟩
  refine wpAny_bind (thn (Q := fun (b : Bool) s' => ∃ h1 f0' f1', s' = { s with heap := h1 } ∧ (b = true ∨ ∃ a : Nat, f0' = rawInt a) ∧ Mid B n k 0 f0' f1' ls (fun _ => True) s.heap h1) ?_ fun b s' hb => ?_)
  · unfold Builtin.SmallTypes.ownedTupleIsFree
    refine wpAny_bind (wpAny_field hzz rfl (x := f0) rfl ?_)
    rcases hf with rfl | ⟨a, rfl⟩
    · exact wpAny_pure ⟨s.heap, _, _, rfl, .inl rfl, Z0⟩
    · show wpAny _ _ (loadIfAlive ((a : Int).toNat) >>= _) _ _ _
      rw [Int.toNat_natCast]
      refine wpAny_bind (alive ?_)
      cases hg : s.heap.get? a with
      | none =>
        simp only [Option.isNone_none, if_true]
        exact wpAny_pure ⟨s.heap, _, _, rfl, .inl rfl, Z0⟩
      | some oa =>
        simp only [Option.isNone_some, Bool.false_eq_true, if_false]
        refine wpAny_bind (wpAny_field hzz rfl (x := .bool f1) rfl ?_)
        cases f1 with
        | true =>
          rw [if_neg (show ¬ ((Value.bool true != Value.bool true) = true) from Bool.false_ne_true)]
          exact wpAny_pure ⟨s.heap, _, _, rfl, .inr ⟨a, rfl⟩, Z0⟩
        | false =>
          rw [if_pos (show (Value.bool false != Value.bool true) = true from rfl)]
          refine wpAny_bind (wpAny_setField_rec hzz (by simp) fun h₃ he₃ hs₃ => ?_)
          exact wpAny_pure ⟨h₃, _, true, rfl, .inr ⟨a, rfl⟩, Z0.wrote he₃ hs₃⟩
  obtain ⟨h1, f0', f1', rfl, hb, m1⟩ := hb
  cases b with
  | true =>
    simp only [if_true]
    refine wpAny_bind (wpAny_rule ?_)
    refine wpAny_bind (wpAny_field m1.z rfl (x := .ref (B + n + 1)) rfl ?_)
    refine wpAny_bind (wpAny_setField_rec m1.z (by simp) fun h₃ he₃ hs₃ => ?_)
    have m3 : Mid B n k 0 .ellipsis f1' ls (fun _ => True) s.heap h₃ := m1.wrote he₃ hs₃
    refine wpAny_bind (wpAny_forIn_list _ (fun r (b : Option Fin × Unit) s' => b = (none, ()) ∧ ∃ j h2, r = (refsFrom B n).zipIdx.drop j ∧ s' = { s with heap := h2 } ∧ Mid B n k j .ellipsis f1' ls (fun arr => ∀ i, i < j → arr[i]? = some (x i)) s.heap h2) _ ?_ ?_ _ _ ?_)
    · rintro y rest b s1 ⟨rfl, j, h2, er, rfl, m⟩
      obtain ⟨hj, rfl, er2⟩ := zidx (l := []) er
      refine wpAny_bind (wpAny_onRaise ?_)
      show wpAny _ _ (Builtin.SmallTypes.nextOf (.ref (B + j)) >>= _) _ _ _
      refine wpAny_bind (Mid.next (s := { s with heap := h2 }) m hj (tup_keep m hl hr) hx fun h3 m3 => wpAny_pure ?_)
      obtain ⟨arr3, a1, a2, a3⟩ := m3.to
      refine wpAny_bind (wpAny_seqItems (s := { s with heap := h3 }) a3 rfl ?_)
      refine wpAny_bind (wpAny_updateSeq (s := { s with heap := h3 }) a3 rfl ?_)
      refine wpAny_bind (wpAny_letGo (wpAny_pure ⟨rfl, j + 1, _, er2, rfl, Mid.put (m3.mono fun _ _ => trivial) a1 hj a2 ?_ (Heap.SameBut.update ..)⟩))
      rw [Heap.get?_update_self _ a3 rfl]
      simp [Obj.mapSeq]
    · rintro b s1 ⟨rfl, j, h2, er, rfl, m⟩
      have hj := nil_drop er
      rw [List.length_zipIdx, refs_len] at hj
      obtain ⟨arr3, a1, a2, a3⟩ := m.to
      have ae := arr_eq a1 (fun i hi => a2 i (by omega))
      refine wpAny_bind (wpAny_seqItems (s := { s with heap := h2 }) a3 rfl ?_)
      refine wpAny_bind (wpAny_newTuple ?_ (by rw [Array.length_toList]; show arr3.size ≤ 2 ^ 24; omega))
      rw [ae, m.sz]
      have hzs : B + n + 2 < h2.objs.size := Heap.lt_size m.z
      have g1 := Heap.get?_push_of_some (o := { cls := .type "tuple", data := .seq ((List.range n).map x).toArray }) m.z
      have g2 : (h2.push { cls := .type "tuple", data := .seq ((List.range n).map x).toArray }).get? h2.objs.size = some { cls := .type "tuple", data := .seq ((List.range n).map x).toArray } := Heap.get?_push_size _ rfl
      generalize hP : h2.push { cls := .type "tuple", data := .seq ((List.range n).map x).toArray } = hp at g1 g2 ⊢
      have hps : hp.objs.size = s.heap.objs.size + 1 := by rw [← hP, Heap.size_push, m.sz]
      have gk : ∀ c o, h2.get? c = some o → hp.get? c = some o := fun c o e => by rw [← hP]; exact Heap.get?_push_of_some _ e
      rw [m.sz] at g2 hzs
      show wpAny _ _ (Builtin.SmallTypes.ownedTupleHandOut (.ref (B + n + 2)) (.ref s.heap.objs.size) >>= _) _ _ _
      refine wpAny_bind ?_
      unfold Builtin.SmallTypes.ownedTupleHandOut
      refine wpAny_bind (wpAny_setField_rec (s := { s with heap := hp }) g1 (by simp) fun h₇ hz₇ hs₇ => ?_)
      replace hz₇ : h₇.get? (B + n + 2) = some { cls := .type "zip", dict := none, data := .fields #[rawInt s.heap.objs.size, .bool f1', .bool false, .ref (B + n), .ref (B + n + 1)], slots := #[] } := hz₇
      refine wpAny_setField_rec (s := { s with heap := h₇ }) hz₇ (by simp) fun h₈ hz₈ hs₈ => ?_
      replace hz₈ : h₈.get? (B + n + 2) = some { cls := .type "zip", dict := none, data := .fields #[rawInt s.heap.objs.size, .bool false, .bool false, .ref (B + n), .ref (B + n + 1)], slots := #[] } := hz₈
      have up : ∀ c o, c ≠ B + n + 2 → h2.get? c = some o → h₈.get? c = some o := fun c o c1 e => hs₈.extBut _ _ c1 (hs₇.extBut _ _ c1 (gk c o e))
      refine wpAny_pure ⟨_, rfl, hQ h₈ ⟨⟨_, _, .inr ⟨_, rfl⟩, hz₈⟩, up (B + n) _ (ne_add (by omega)) m.ti, ⟨arr3, a1, up (B + n + 1) _ (ne_add (by omega)) a3⟩, fun i hi => ?_⟩ ?_ ?_ fun c o hc e => up c o (ne_add (by omega)) (m.kp c o hc e)⟩
      · have := m.its i hi
        rw [if_pos (by omega)] at this
        exact this.at fun o e => up (B + i) o (ne_add (by omega)) e
      · exact hs₈.extBut _ _ (Nat.ne_of_gt hzs) (hs₇.extBut _ _ (Nat.ne_of_gt hzs) g2)
      · rw [hs₈.1, hs₇.1]; exact hps
    · exact ⟨rfl, 0, h₃, rfl, rfl, m3.mono fun a _ i hi => absurd hi (Nat.not_lt_zero _)⟩
  | false =>
    simp only [Bool.false_eq_true, if_false]
    rw [List.forIn_toArray]
    refine wpAny_bind (wpAny_forIn_list _ (fun r (b : Option Fin × Array Value) s' => ∃ j h2, r = (refsFrom B n).drop j ∧ j ≤ n ∧ b = (none, ((List.range j).map x).toArray) ∧ s' = { s with heap := h2 } ∧ Mid B n k j f0' f1' ls (fun arr => True) s.heap h2) _ ?_ ?_ _ _ ?_)
    · rintro y rest b s1 ⟨j, h2, er, _, rfl, rfl, m⟩
      obtain ⟨ey, er2⟩ := drop_cons er
      obtain ⟨hj, rfl⟩ := refs_at ey
      refine wpAny_bind (wpAny_holding ?_)
      show wpAny _ _ (Builtin.SmallTypes.nextOf (.ref (B + j)) >>= _) _ _ _
      refine wpAny_bind (Mid.next (s := { s with heap := h2 }) m hj (tup_keep m hl hr) hx fun h3 m3 => wpAny_pure ?_)
      refine wpAny_pure ⟨j + 1, h3, er2, hj, ?_, rfl, m3⟩
      show (none, ((List.range j).map x).toArray.push (x j)) = _
      rw [List.push_toArray, List.range_succ, List.map_append] <;> rfl
    · rintro b s1 ⟨j, h2, er, hjn, rfl, rfl, m⟩
      have hj := nil_drop er
      rw [refs_len] at hj
      obtain rfl : j = n := Nat.le_antisymm hjn hj
      obtain ⟨arr3, a1, a2, a3⟩ := m.to
      refine wpAny_bind (wpAny_newTuple ?_ (by simp; show j ≤ 2 ^ 24; omega))
      have hzs : B + j + 2 < h2.objs.size := Heap.lt_size m.z
      refine wpAny_pure ⟨_, rfl, ?_⟩
      show Q (.ref h2.objs.size) _
      have up : ∀ c o, h2.get? c = some o → (h2.push { cls := .type "tuple", data := .seq ((List.range j).map x).toArray }).get? c = some o := fun c o e => Heap.get?_push_of_some _ e
      have g2 : (h2.push { cls := .type "tuple", data := .seq ((List.range j).map x).toArray }).get? h2.objs.size = some { cls := .type "tuple", data := .seq ((List.range j).map x).toArray } := Heap.get?_push_size _ rfl
      rw [m.sz] at g2 ⊢
      refine hQ _ ⟨⟨_, _, .inr ?_, up _ _ m.z⟩, up _ _ m.ti, ⟨arr3, a1, up _ _ a3⟩, fun i hi => ?_⟩ g2 ?_ fun c o hc e => up _ _ (m.kp c o hc e)
      · rcases hb with hb | hb
        · cases hb
        · exact hb
      · have := m.its i hi
        rw [if_pos hi] at this
        exact this.at fun o e => up _ o e
      · rw [Heap.size_push, m.sz]
    · exact ⟨0, h1, rfl, Nat.zero_le _, rfl, rfl, m1⟩
theorem next_end {rows : Nat → Array Value} {Q : Fin → Shared → Prop} (hh : A.handled = none) (hn : 0 < n) (hz : ZipAt B n k ls s.heap) (hr : ∀ i, i < n → s.heap.IsTuple (ls i) (rows i)) (hl : ∀ i, i < n → ls i < B) (hx : (rows 0)[k]? = none)
    (hE : ∀ h' e, (∀ c o, c < B ∨ B + n + 2 < c → s.heap.get? c = some o → h'.get? c = some o) → (∃ o, h'.get? e = some o ∧ o.cls = .type "StopIteration") → E (.ref e) { s with heap := h' }) :
    wpAny (model prog w) A (Builtin.«zip.__next__» ⟨[.ref (B + n + 2)], []⟩) Q E s := by
  obtain ⟨⟨f0, f1, hf, hzz⟩, hti, ⟨arr, ha, hto⟩, hits⟩ := hz
  show wpAny _ _ (field (.ref (B + n + 2)) 2 >>= _) _ _ _
  refine wpAny_bind (wpAny_field hzz rfl (x := .bool false) rfl ?_)
  show wpAny _ _ (field (.ref (B + n + 2)) 3 >>= _) _ _ _
  refine wpAny_bind (wpAny_field hzz rfl (x := .ref (B + n)) rfl ?_)
  refine wpAny_bind (wpAny_seqItems hti rfl ?_)
  have he : (refsFrom B n).toArray.isEmpty = false := by
    rw [List.isEmpty_toArray]
    cases hh : refsFrom B n with
    | nil => have := refs_len B n; rw [hh] at this; simp at this; omega
    | cons _ _ => rfl
  simp only [he, Bool.false_eq_true, if_false]
  show wpAny _ _ (Builtin.SmallTypes.ownedTupleIsFree (.ref (B + n + 2)) >>= _) _ _ _
  have Z0 : Mid B n k 0 f0 f1 ls (fun _ => True) s.heap s.heap := ⟨hzz, hti, ⟨arr, ha, trivial, hto⟩, fun i hi => by rw [if_neg (Nat.not_lt_zero _)]; exact hits i hi, rfl, fun _ _ _ e => e⟩
  refine wpAny_bind (thn (Q := fun (b : Bool) s' => ∃ h1 f0' f1', s' = { s with heap := h1 } ∧ (b = true ∨ ∃ a : Nat, f0' = rawInt a) ∧ Mid B n k 0 f0' f1' ls (fun _ => True) s.heap h1) ?_ fun b s' hb => ?_)
  · unfold Builtin.SmallTypes.ownedTupleIsFree
    refine wpAny_bind (wpAny_field hzz rfl (x := f0) rfl ?_)
    rcases hf with rfl | ⟨a, rfl⟩
    · exact wpAny_pure ⟨s.heap, _, _, rfl, .inl rfl, Z0⟩
    · show wpAny _ _ (loadIfAlive ((a : Int).toNat) >>= _) _ _ _
      rw [Int.toNat_natCast]
      refine wpAny_bind (alive ?_)
      cases hg : s.heap.get? a with
      | none =>
        simp only [Option.isNone_none, if_true]
        exact wpAny_pure ⟨s.heap, _, _, rfl, .inl rfl, Z0⟩
      | some oa =>
        simp only [Option.isNone_some, Bool.false_eq_true, if_false]
        refine wpAny_bind (wpAny_field hzz rfl (x := .bool f1) rfl ?_)
        cases f1 with
        | true =>
          rw [if_neg (show ¬ ((Value.bool true != Value.bool true) = true) from Bool.false_ne_true)]
          exact wpAny_pure ⟨s.heap, _, _, rfl, .inr ⟨a, rfl⟩, Z0⟩
        | false =>
          rw [if_pos (show (Value.bool false != Value.bool true) = true from rfl)]
          refine wpAny_bind (wpAny_setField_rec hzz (by simp) fun h₃ he₃ hs₃ => ?_)
          exact wpAny_pure ⟨h₃, _, true, rfl, .inr ⟨a, rfl⟩, Z0.wrote he₃ hs₃⟩
  obtain ⟨h1, f0', f1', rfl, hb, m1⟩ := hb
  have i0 := m1.its 0 hn
  rw [if_neg (Nat.lt_irrefl _)] at i0
  have t0 := tup_keep m1 hl hr 0 hn
  obtain ⟨tl, hc⟩ : ∃ tl, refsFrom B n = .ref (B + 0) :: tl := by
    obtain ⟨m, rfl⟩ : ∃ m, n = m + 1 := ⟨n - 1, by omega⟩
    unfold refsFrom
    rw [List.range_succ_eq_map]
    exact ⟨_, rfl⟩
  cases b with
  | true =>
    simp only [if_true]
    refine wpAny_bind (wpAny_rule ?_)
    refine wpAny_bind (wpAny_field m1.z rfl (x := .ref (B + n + 1)) rfl ?_)
    refine wpAny_bind (wpAny_setField_rec m1.z (by simp) fun h₃ he₃ hs₃ => ?_)
    have m3 : Mid B n k 0 .ellipsis f1' ls (fun _ => True) s.heap h₃ := m1.wrote he₃ hs₃
    have i3 := m3.its 0 hn
    rw [if_neg (Nat.lt_irrefl _)] at i3
    have t3 := tup_keep m3 hl hr 0 hn
    rw [hc, List.zipIdx_cons, List.forIn_cons]
    refine wpAny_bind (wpAny_bind (wpAny_bind (wpAny_onRaise ?_)))
    show wpAny _ _ (Builtin.SmallTypes.nextOf (.ref (B + 0)) >>= _) _ _ _
    refine wpAny_bind (RZ.nextOf_tuple_end (s := { s with heap := h₃ }) hh i3 t3 hx fun h₂ e hs₂ he => ?_)
    obtain ⟨oe, hoe, hce⟩ := he
    have hz₂ := hs₂ _ _ (ne_add (by omega)) m3.z
    have hez : e ≠ B + n + 2 := fun x => by subst x; rw [hz₂] at hoe; cases hoe; simp at hce
    refine wpAny_setField_rec (s := { s with heap := h₂ }) hz₂ (by simp) fun h₅ _ hs₅ => hE h₅ e (fun c o hc x => hs₅.extBut _ _ (ne_add (by omega)) (hs₂ _ _ (ne_add (by omega)) (m3.kp c o hc x))) ⟨oe, hs₅.extBut _ _ hez hoe, hce⟩
  | false =>
    simp only [Bool.false_eq_true, if_false]
    rw [List.forIn_toArray, hc, List.forIn_cons]
    refine wpAny_bind (wpAny_bind (wpAny_bind (wpAny_holding ?_)))
    show wpAny _ _ (Builtin.SmallTypes.nextOf (.ref (B + 0)) >>= _) _ _ _
    refine wpAny_bind (RZ.nextOf_tuple_end (s := { s with heap := h1 }) hh i0 t0 hx fun h₂ e hs₂ he => hE h₂ e (fun c o hc x => hs₂ _ _ (ne_add (by omega)) (m1.kp c o hc x)) he)
theorem pyNext_item {rows : Nat → Array Value} {x : Nat → Value} {Q : Option Value → Shared → Prop} (hn : 0 < n) (hn2 : n ≤ 100000) (hz : ZipAt B n k ls s.heap) (hr : ∀ i, i < n → s.heap.IsTuple (ls i) (rows i)) (hl : ∀ i, i < n → ls i < B) (hx : ∀ i, i < n → (rows i)[k]? = some (x i))
    (hQ : ∀ h', ZipAt B n (k + 1) ls h' → h'.get? s.heap.objs.size = some { cls := .type "tuple", data := .seq ((List.range n).map x).toArray } → h'.objs.size = s.heap.objs.size + 1 →
      (∀ c o, c < B ∨ B + n + 2 < c → s.heap.get? c = some o → h'.get? c = some o) → Q (some (.ref s.heap.objs.size)) { s with heap := h' }) :
    wpAny (model prog w) A (pyNext (.ref (B + n + 2))) Q E s := by
  obtain ⟨f0, f1, _, hzz⟩ := hz.z
  have hT : s.TypeIs (.ref (B + n + 2)) "zip" := ⟨_, hzz, rfl⟩
  unfold pyNext
  exact wpAny_bind (wpAny_attempt (wpAny_callSpecial?_slot (name := Str.ofString "__next__") hT F.slot_zip_next
    (wpAny_call_entry F.slot_zip_next hT F.entry_zip_next
      (next_item hn hn2 hz hr hl hx fun h' a1 a2 a3 a4 => wpAny_pure (hQ h' a1 a2 a3 a4)) (F.args_zip_next_1 _))))
theorem pyNext_end {rows : Nat → Array Value} {Q : Option Value → Shared → Prop} (hh : A.handled = none) (hn : 0 < n) (hz : ZipAt B n k ls s.heap) (hr : ∀ i, i < n → s.heap.IsTuple (ls i) (rows i)) (hl : ∀ i, i < n → ls i < B) (hx : (rows 0)[k]? = none)
    (hQ : ∀ h', (∀ c o, c < B ∨ B + n + 2 < c → s.heap.get? c = some o → h'.get? c = some o) → Q none { s with heap := h' }) : wpAny (model prog w) A (pyNext (.ref (B + n + 2))) Q E s := by
  obtain ⟨f0, f1, _, hzz⟩ := hz.z
  have hT : s.TypeIs (.ref (B + n + 2)) "zip" := ⟨_, hzz, rfl⟩
  unfold pyNext
  refine wpAny_bind (wpAny_attempt (wpAny_callSpecial?_slot (name := Str.ofString "__next__") hT F.slot_zip_next
    (wpAny_call_entry F.slot_zip_next hT F.entry_zip_next (next_end hh hn hz hr hl hx fun h' e hk he => ?_) (F.args_zip_next_1 _))))
  obtain ⟨o, ho, hc⟩ := he
  refine wpAny_bind (wpAny_isInstance (T := "StopIteration") (b := true) ⟨o, ho, hc⟩ isSubtype_stop ?_)
  exact wpAny_pure (hQ _ hk)
theorem self_zip {Q : Value → Shared → Prop} (hz : ZipAt B n k ls s.heap) (h : Q (.ref (B + n + 2)) s) : wpAny (model prog w) A (pyIter (.ref (B + n + 2))) Q E s := by
  obtain ⟨f0, f1, _, hzz⟩ := hz.z
  have hT : s.TypeIs (.ref (B + n + 2)) "zip" := ⟨_, hzz, rfl⟩
  refine wpAny_pyIter_slot hT F.slot_zip_iter (wpAny_call_entry F.slot_zip_iter hT F.entry_zip_iter ?_ (F.args_zip_iter_1 _))
  show wpAny _ _ (ret (.ref (B + n + 2))) _ _ s
  exact wpAny_pure ⟨_, rfl, "zip", _, hT, F.slot_zip_next.lookup, h⟩
theorem typeCall_zip (v : Value) (vs : List Value) : checkTypeCall "zip" ⟨v :: vs, []⟩ = pure () := by kernel_rfl
theorem newCall_zip (v : Value) (vs : List Value) : checkBuiltinCall "zip.__new__" ⟨.type "zip" :: v :: vs, []⟩ = pure () := by kernel_rfl
theorem args_init (c v : Value) (vs : List Value) : argsOk "object.__init__" ⟨c :: v :: vs, []⟩ := by
  unfold argsOk; rw [signature?_of (id := "object.__init__") (n := ['_', '_', 't', 'i', 'n', 'i', '_', '_']) (o := ['t', 'c', 'e', 'j', 'b', 'o']) (by kernel_rfl) F.owner_object]; kernel_rfl
end
section
variable {prog : Program} {w : World} {A : Around} {E : Value → Shared → Prop} {s : Shared} {n : Nat} {ls : Nat → Addr} {rows : Nat → Array Value}
def addrs (ls : Nat → Addr) (n : Nat) : List Value := (List.range n).map fun i => Value.ref (ls i)
theorem addrs_at {j : Nat} {v : Value} (h : (addrs ls n)[j]? = some v) : j < n ∧ v = .ref (ls j) := by
  unfold addrs at h
  rw [List.getElem?_map] at h
  by_cases hj : j < n
  · rw [List.getElem?_range hj] at h
    exact ⟨hj, (Option.some.inj h).symm⟩
  · rw [List.getElem?_eq_none (by simp; omega)] at h
    cases h
theorem iterAll_n {Q : List Value → Shared → Prop} (hr : ∀ i, i < n → s.heap.IsTuple (ls i) (rows i))
    (hQ : ∀ h', h'.objs.size = s.heap.objs.size + n → (∀ i, i < n → h'.IsTupleIter (s.heap.objs.size + i) (ls i) 0) → (∀ c o, s.heap.get? c = some o → h'.get? c = some o) → Q (refsFrom s.heap.objs.size n) { s with heap := h' }) :
    wpAny (model prog w) A (Builtin.SmallTypes.iterAll (addrs ls n)) Q E s := by
  unfold Builtin.SmallTypes.iterAll
  refine wpAny_bind (wpAny_forIn_list _ (fun r (b : Array Value) s' => ∃ j h2, r = (addrs ls n).drop j ∧ j ≤ n ∧ b = (refsFrom s.heap.objs.size j).toArray ∧ s' = { s with heap := h2 } ∧ h2.objs.size = s.heap.objs.size + j ∧ (∀ i, i < j → h2.IsTupleIter (s.heap.objs.size + i) (ls i) 0) ∧ (∀ c o, s.heap.get? c = some o → h2.get? c = some o)) _ ?_ ?_ _ _ ?_)
  · rintro y rest b s1 ⟨j, h2, er, _, rfl, rfl, h3, h4, h5⟩
    obtain ⟨ey, er2⟩ := drop_cons er
    obtain ⟨hj, rfl⟩ := addrs_at ey
    obtain ⟨o, ho, rr⟩ := hr j hj
    refine wpAny_bind (wpAny_holding (wpAny_pyIter_tuple (s := { s with heap := h2 }) (t := ls j) (items := rows j) ⟨o, h5 _ _ ho, rr⟩ ?_))
    refine wpAny_pure ⟨j + 1, _, er2, hj, ?_, rfl, ?_, fun i hi => ?_, fun c o e => Heap.get?_push_of_some _ (h5 c o e)⟩
    · show (refsFrom s.heap.objs.size j).toArray.push (.ref h2.objs.size) = _
      rw [List.push_toArray, h3]
      unfold refsFrom
      rw [List.range_succ, List.map_append] <;> rfl
    · rw [Heap.size_push, h3] <;> rfl
    · by_cases e : i = j
      · subst e
        rw [← h3]
        exact ⟨_, Heap.get?_push_size _ rfl, rfl, rfl⟩
      · exact (h4 i (by omega)).at fun o e => Heap.get?_push_of_some _ e
  · rintro b s1 ⟨j, h2, er, hjn, rfl, rfl, h3, h4, h5⟩
    have hj := nil_drop er
    unfold addrs at hj
    rw [List.length_map, List.length_range] at hj
    obtain rfl : j = n := Nat.le_antisymm hjn hj
    exact wpAny_pure (hQ h2 h3 h4 h5)
  · exact ⟨0, s.heap, rfl, Nat.zero_le _, rfl, rfl, rfl, fun i hi => absurd hi (Nat.not_lt_zero _), fun _ _ e => e⟩
theorem newClass_zip (vs : List Value) : Builtin.SmallTypes.newClass "zip" ⟨.type "zip" :: vs, []⟩ = pure (.type "zip", vs) := by
  unfold Builtin.SmallTypes.newClass
  show (isType (.type "zip") >>= _) = _
  rw [show isType (.type "zip") = pure true from by kernel_rfl]
  show (isSubtype (.type "zip") (.type "zip") >>= _) = _
  rw [sub_zip]
  rfl
theorem meets_new (n : Nat) (hn2 : n ≤ 100000) (ls : Nat → Addr) (rows : Nat → Array Value) :
    Meets (Builtin.«zip.__new__» ⟨.type "zip" :: addrs ls n, []⟩) (fun _ R s => (∀ i, i < n → s.heap.IsTuple (ls i) (rows i)) ∧
      ∀ h', ZipAt s.heap.objs.size n 0 ls h' → (∀ c o, s.heap.get? c = some o → h'.get? c = some o) → R (.ok (.ret (.ref (s.heap.objs.size + n + 2)))) { s with heap := h' }) :=
  .of_wp fun prog w A R s h => by
    obtain ⟨hr, h⟩ := h
    have hsub := sub_zip
    unfold Builtin.«zip.__new__»
    refine wpAny_bind (wpAny_of_eq (newClass_zip _) ?_)
    show wpAny _ _ (Builtin.SmallTypes.iterAll (addrs ls n) >>= _) _ _ _
    refine wpAny_bind (iterAll_n hr fun h1 z1 i1 k1 => ?_)
    refine wpAny_bind (wpAny_newTuple ?_ (by rw [refs_len]; show n ≤ 2 ^ 24; omega))
    refine wpAny_bind (wpAny_newTuple ?_ (by rw [List.length_map, refs_len]; show n ≤ 2 ^ 24; omega))
    have g1 : (h1.push { cls := .type "tuple", data := .seq (refsFrom s.heap.objs.size n).toArray }).get? h1.objs.size = some { cls := .type "tuple", data := .seq (refsFrom s.heap.objs.size n).toArray } := Heap.get?_push_size _ rfl
    have u1 : ∀ c o, h1.get? c = some o → (h1.push { cls := .type "tuple", data := .seq (refsFrom s.heap.objs.size n).toArray }).get? c = some o := fun c o e => Heap.get?_push_of_some _ e
    have s1 : (h1.push { cls := .type "tuple", data := .seq (refsFrom s.heap.objs.size n).toArray }).objs.size = s.heap.objs.size + n + 1 := by rw [Heap.size_push, z1]
    rw [z1] at g1 ⊢
    generalize h1.push { cls := .type "tuple", data := .seq (refsFrom s.heap.objs.size n).toArray } = h2 at g1 u1 s1 ⊢
    have g2 : (h2.push { cls := .type "tuple", data := .seq ((refsFrom s.heap.objs.size n).map fun _ => Value.none).toArray }).get? h2.objs.size = some { cls := .type "tuple", data := .seq ((refsFrom s.heap.objs.size n).map fun _ => Value.none).toArray } := Heap.get?_push_size _ rfl
    have u2 : ∀ c o, h2.get? c = some o → (h2.push { cls := .type "tuple", data := .seq ((refsFrom s.heap.objs.size n).map fun _ => Value.none).toArray }).get? c = some o := fun c o e => Heap.get?_push_of_some _ e
    have s2 : (h2.push { cls := .type "tuple", data := .seq ((refsFrom s.heap.objs.size n).map fun _ => Value.none).toArray }).objs.size = s.heap.objs.size + n + 2 := by rw [Heap.size_push, s1]
    rw [s1] at g2 ⊢
    generalize h2.push { cls := .type "tuple", data := .seq ((refsFrom s.heap.objs.size n).map fun _ => Value.none).toArray } = h3 at g2 u2 s2 ⊢
    refine wpAny_bind ?_
    show wpAny _ _ (newObj (.type "zip") (.fields #[.none, .bool false, .bool false, .ref (s.heap.objs.size + n), .ref (s.heap.objs.size + n + 1)])) _ _ _
    refine wpAny_newObj_type ?_
    have g3 : (h3.push { cls := .type "zip", data := .fields #[.none, .bool false, .bool false, .ref (s.heap.objs.size + n), .ref (s.heap.objs.size + n + 1)] }).get? h3.objs.size = some { cls := .type "zip", data := .fields #[.none, .bool false, .bool false, .ref (s.heap.objs.size + n), .ref (s.heap.objs.size + n + 1)] } := Heap.get?_push_size _ rfl
    have u3 : ∀ c o, h3.get? c = some o → (h3.push { cls := .type "zip", data := .fields #[.none, .bool false, .bool false, .ref (s.heap.objs.size + n), .ref (s.heap.objs.size + n + 1)] }).get? c = some o := fun c o e => Heap.get?_push_of_some _ e
    rw [s2] at g3
    refine wpAny_pure ⟨_, rfl, ?_⟩
    show R (.ok (.ret (.ref h3.objs.size))) _
    rw [s2]
    refine h _ ⟨⟨_, _, .inl rfl, g3⟩, u3 _ _ (u2 _ _ g1), ⟨_, ?_, u3 _ _ g2⟩, fun i hi => (i1 i hi).at fun o e => u3 _ _ (u2 _ _ (u1 _ _ e))⟩ fun c o e => u3 _ _ (u2 _ _ (u1 _ _ (k1 c o e)))
    simp [refs_len]
theorem call_zipN {Q : Value → Shared → Prop} (hn : 0 < n) (hn2 : n ≤ 100000) (hr : ∀ i, i < n → s.heap.IsTuple (ls i) (rows i))
    (h : ∀ h', ZipAt s.heap.objs.size n 0 ls h' → (∀ c o, s.heap.get? c = some o → h'.get? c = some o) → Q (.ref (s.heap.objs.size + n + 2)) { s with heap := h' }) : wpAny (model prog w) A (call (.type "zip") (addrs ls n)) Q E s := by
  obtain ⟨v, vs, hv⟩ : ∃ v vs, addrs ls n = v :: vs := by
    obtain ⟨m, rfl⟩ : ∃ m, n = m + 1 := ⟨n - 1, by omega⟩
    unfold addrs
    rw [List.range_succ_eq_map]
    exact ⟨_, _, rfl⟩
  have M := meets_new n hn2 ls rows
  rw [hv] at M ⊢
  refine callType_new F.called_zip (by decide) (typeCall_zip _ _) (newCall_zip _ _) (fun obj => args_init _ _ _) F.entry_zip_new M ⟨hr, fun h' z k => ?_⟩
  obtain ⟨f0, f1, _, hzz⟩ := z.z
  exact ⟨⟨_, hzz, rfl⟩, h h' z k⟩
end
/-! ### as an iterable -/
/-- zip of the tuples at as, which are rows, m items each -/
def ItN (K : PySem.W.Frag) (as : List Addr) (rows : List (List V)) (m : Nat) : It :=
  ⟨fun i H => i < m ∧ ∀ (j : Nat) (a : Addr) (xs : List V), as[j]? = some a → rows[j]? = some xs → SqT K H a xs,
    fun i H v H' => ∃ T, v = .ref T ∧ H T = none ∧ H' = upd H T (.tup (rows.map fun xs => xs.getD i .non)),
    fun i H => m ≤ i ∧ ∀ (j : Nat) (a : Addr) (xs : List V), as[j]? = some a → rows[j]? = some xs → SqT K H a xs⟩
theorem vals_map {α : Type} : ∀ {l : List α} {f : α → V} {g : Nat → Value}, (∀ j a, l[j]? = some a → RelV (f a) (g j)) → Vals (l.map f) ((List.range l.length).map g)
  | [], _, _, _ => .nil
  | a :: l, f, g, h => by
    rw [List.map_cons, List.length_cons, List.range_succ_eq_map, List.map_cons, List.map_map]
    exact .cons (h 0 a rfl) (vals_map fun j b e => h (j + 1) b (by simpa using e))
theorem ZipAt.keep {B n k : Nat} {ls : Nat → Addr} {h h' : Heap} (z : ZipAt B n k ls h) (kp : ∀ b : Nat, B ≤ b → b < B + n + 3 → ∀ o, h.get? b = some o → h'.get? b = some o) : ZipAt B n k ls h' := by
  obtain ⟨⟨f0, f1, hf, hz⟩, ti, ⟨arr, ha, to⟩, its⟩ := z
  exact ⟨⟨f0, f1, hf, kp _ (by omega) (by omega) _ hz⟩, kp _ (by omega) (by omega) _ ti, ⟨arr, ha, kp _ (by omega) (by omega) _ to⟩, fun i hi => (its i hi).at fun o e => kp _ (by omega) (by omega) _ e⟩
def fps (B n : Nat) : List Nat := (List.range (n + 3)).map fun i => B + i
theorem mem_fps {B n : Nat} {b : Nat} : b ∈ fps B n ↔ B ≤ b ∧ b < B + n + 3 := by
  unfold fps
  rw [List.mem_map]
  constructor
  · rintro ⟨i, hi, rfl⟩
    have := List.mem_range.mp hi
    exact ⟨by omega, by omega⟩
  · rintro ⟨h1, h2⟩
    exact ⟨b - B, List.mem_range.mpr (by omega), by omega⟩
theorem fps_cases {B n c : Nat} (h : c ∈ fps B n) : c = B + n + 2 ∨ c = B + n ∨ c = B + n + 1 ∨ ∃ i, i < n ∧ c = B + i := by
  have := mem_fps.mp h
  by_cases e1 : c = B + n + 2
  · exact .inl e1
  by_cases e2 : c = B + n
  · exact .inr (.inl e2)
  by_cases e3 : c = B + n + 1
  · exact .inr (.inr (.inl e3))
  exact .inr (.inr (.inr ⟨c - B, by omega, by omega⟩))
theorem fps_out {B n c : Nat} (h : c ∉ fps B n) : c < B ∨ B + n + 2 < c := by
  by_cases q1 : c < B
  · exact .inl q1
  · refine .inr ?_
    by_cases q2 : B + n + 2 < c
    · exact q2
    · exact absurd (mem_fps.mpr ⟨by omega, by omega⟩) h
theorem fps_lt {B n c z : Nat} (h : c ∈ fps B n) (hz : B + n + 2 < z) : c < z := by
  have := (mem_fps.mp h).2
  omega
theorem rows_at {X : Cx} {pins : List (Addr × Obj)} {σ : L2.St} {H : Hp} {s : Shared} {as : List Addr} {rows : List (List V)} (I : Inv X pins σ H s) (hl : as.length = rows.length) (hq : ∀ (j : Nat) (a : Addr) (xs : List V), as[j]? = some a → rows[j]? = some xs → SqT X.K H a xs) :
    ∃ its : Nat → List Value, ∀ j, j < rows.length → Vals (rows.getD j []) (its j) ∧ s.heap.IsTuple (as.getD j 0) (its j).toArray := by
  have ex : ∀ j, ∃ its : List Value, j < rows.length → Vals (rows.getD j []) its ∧ s.heap.IsTuple (as.getD j 0) its.toArray := fun j => by
    by_cases hj : j < rows.length
    · have hj2 : j < as.length := by omega
      obtain ⟨its, rv, p, _⟩ := I.tuple (hq j as[j] rows[j] (List.getElem?_eq_getElem hj2) (List.getElem?_eq_getElem hj))
      refine ⟨its, fun _ => ⟨?_, ?_⟩⟩
      · rw [List.getD_eq_getElem?_getD, List.getElem?_eq_getElem hj]
        exact rv
      · rw [List.getD_eq_getElem?_getD, List.getElem?_eq_getElem hj2]
        exact p
    · exact ⟨[], fun h => absurd h hj⟩
  exact ⟨fun j => Classical.choose (ex j), fun j => Classical.choose_spec (ex j)⟩
theorem turn_zipN {P : Program} {w : World} {K : PySem.W.Frag} {x : Str} {tpos : Pos} {as : List Addr} {rows : List (List V)} {m B : Nat} (hl : as.length = rows.length) (h0 : 0 < rows.length) (h1 : rows.length ≤ 100000) (hm : ∀ (j : Nat) (xs : List V), rows[j]? = some xs → xs.length = m) (hB : ∀ j, j < rows.length → as.getD j 0 < B) :
    Turn P w K (.Name x tpos) (ItN K as rows m) (fps B rows.length) (B + rows.length + 2) (fun i h => ZipAt B rows.length i (fun j => as.getD j 0) h) where
  mem := mem_fps.mpr ⟨by omega, by omega⟩
  obj := fun i h st c hc => by
    obtain ⟨⟨f0, f1, hf, hz⟩, ti, ⟨arr, ha, to⟩, its⟩ := st
    rcases fps_cases hc with e | e | e | ⟨j, hj, e⟩
    · rw [e]; exact ⟨_, hz, fun v q => nomatch q⟩
    · rw [e]; exact ⟨_, ti, fun v q => nomatch q⟩
    · rw [e]; exact ⟨_, to, fun v q => nomatch q⟩
    · obtain ⟨o, ho, _, hd⟩ := its j hj
      rw [e]
      exact ⟨o, ho, fun v q => by rw [hd] at q; cases q⟩
  keep := fun i h h' st k => st.keep fun b b1 b2 o e => k b (mem_fps.mpr ⟨b1, b2⟩) o e
  item := by
    intro X hP hw hK hc i pins s σ H E I hf st hg
    subst hP hw hK
    have hg' := hg
    obtain ⟨hi, hq⟩ := hg'
    obtain ⟨its, hits⟩ := rows_at I hl hq
    have hlen : ∀ j, j < rows.length → (its j).length = m := fun j hj => by
      rw [← (hits j hj).1.length, List.getD_eq_getElem?_getD, List.getElem?_eq_getElem hj]
      exact hm j _ (List.getElem?_eq_getElem hj)
    have hx : ∀ j, j < rows.length → (its j).toArray[i]? = some ((its j).getD i .none) := fun j hj => by
      have := hlen j hj
      rw [List.getElem?_toArray, List.getD_eq_getElem?_getD, List.getElem?_eq_getElem (by omega)] <;> rfl
    refine pyNext_item h0 h1 st (fun j hj => (hits j hj).2) hB hx fun h' z' hT hsz hk => ?_
    have new : ObjOk X.prog X.w (upd H s.heap.objs.size (.tup (rows.map fun xs => xs.getD i .non))) h' s.heap.objs.size (.tup (rows.map fun xs => xs.getD i .non)) := by
      refine ⟨by rw [List.length_map]; show _ ≤ 2 ^ 24; omega, _, vals_map (g := fun j => (its j).getD i .none) fun j xs hj => ?_, ⟨_, hT, rfl, _, rfl⟩⟩
      have hjl : j < rows.length := (List.getElem?_eq_some_iff.mp hj).1
      have rv := (hits j hjl).1
      rw [List.getD_eq_getElem?_getD, hj] at rv
      have hi2 : i < xs.length := by rw [hm j xs hj]; exact hi
      obtain ⟨u, hu, ru⟩ := Vals.get rv (List.getElem?_eq_getElem hi2)
      rw [List.getD_eq_getElem?_getD, List.getElem?_eq_getElem hi2, List.getD_eq_getElem?_getD, hu]
      exact ru
    have I1 : Inv X pins σ (upd H s.heap.objs.size (.tup (rows.map fun xs => xs.getD i .non))) { s with heap := h' } :=
      I.turnedNew (t' := s.toks) (ch := fps B rows.length) (fun c o hb q => hk c o (fps_out hb) q) hf (Nat.le_refl _) new
    refine ⟨_, rfl, wpAny_pure ⟨.ref s.heap.objs.size, _, I1, rfl, ⟨_, rfl, I.hok.fresh (Nat.le_refl _), rfl⟩, z', fun c hcm => ?_⟩⟩
    have hlt : c < s.heap.objs.size := by
      obtain ⟨_, _, _, hz⟩ := st.z
      exact fps_lt hcm (Heap.lt_size hz)
    rw [upd_ne (Nat.ne_of_lt hlt)]
    exact (hf c hcm).1
  done := by
    intro X hP hw hK hc i pins s σ H E I hf st hg
    subst hP hw hK
    have hg' := hg
    obtain ⟨hi, hq⟩ := hg'
    obtain ⟨its, hits⟩ := rows_at I hl hq
    have hx : (its 0).toArray[i]? = none := by
      have e := (hits 0 h0).1.length
      rw [List.getD_eq_getElem?_getD, List.getElem?_eq_getElem h0] at e
      have e2 := hm 0 _ (List.getElem?_eq_getElem h0)
      rw [List.getElem?_toArray]
      refine List.getElem?_eq_none ?_
      have e3 : (rows[0] : List V).length = (its 0).length := e
      omega
    exact pyNext_end (I.ok.hd hc) h0 st (fun j hj => (hits j hj).2) hB hx fun h' hk => ⟨rfl, I.turnedL (t' := s.toks) (ch := fps B rows.length) (fun c o hb q => hk c o (fps_out hb) q) hf⟩
  self := fun A i s Q E st h => self_zip st h
/-- zip(*e), e a tuple or a list of tuples of one length -/
def iZipS (K : PySem.W.Frag) (te : TE) : TI := fun σ H R => te σ H fun x H1 => ∃ (p : Addr) (as : List Addr) (rows : List (List V)) (m : Nat), x = V.ref p ∧ (SqT K H1 p (as.map V.ref) ∨ SqL K H1 p (as.map V.ref)) ∧ as.length = rows.length ∧ 0 < rows.length ∧ rows.length ≤ 100000 ∧ (∀ (j : Nat) (xs : List V), rows[j]? = some xs → xs.length = m) ∧
  (∀ (j : Nat) (a : Addr) (xs : List V), as[j]? = some a → rows[j]? = some xs → SqT K H1 a xs) ∧ R (ItN K as rows m) H1
theorem refs_vals : ∀ {as : List Addr} {us : List Value}, Vals (as.map V.ref) us → us = as.map Value.ref
  | [], _, .nil => rfl
  | a :: as, _, .cons r t => by
    obtain rfl : _ = Value.ref a := r
    rw [refs_vals t] <;> rfl
theorem addrs_eq {as : List Addr} : as.map Value.ref = addrs (fun j => as.getD j 0) as.length := by
  unfold addrs
  apply List.ext_getElem?
  intro i
  rw [List.getElem?_map, List.getElem?_map]
  by_cases hi : i < as.length
  · rw [List.getElem?_eq_getElem hi, List.getElem?_range hi]
    show some (Value.ref as[i]) = some (Value.ref (as.getD i 0))
    rw [List.getD_eq_getElem?_getD, List.getElem?_eq_getElem hi] <;> rfl
  · rw [List.getElem?_eq_none (by omega), List.getElem?_eq_none (by simp; omega)] <;> rfl
theorem pi_zipS {X : Cx} {e : Expr} {te : TE} {p sp pos tpos : Pos} {x : Str} (hg : Gl X "zip") (hm : X.mg "zip" = none) (he : PE X e te) (hs : starEach [.Starred e sp] X.env = [(true, eval e X.env)] := by rfl) :
    PI X (.Name x tpos) (.Call (.Name "zip" p) [.Starred e sp] [] pos) (iZipS X.K te) := by
  refine ⟨fun pins s σ H R I h => ?_⟩
  refine Call_ (ld_blt I hg hm PyProof.Rows.boot_zip ?_)
  rw [hs]
  refine PySem.W.ks_call (P := fun _ => True) rfl (fun h _ => ⟨.machine, .inr (.inl rfl), PySem.W.Looks.of_pure rfl⟩) (PySem.W.ks_lone (thn (he.run pins s σ H _ I h) fun v s1 ⟨y, H1, I1, ry, a, as, rows, m, ey, hq, hl, h0, h1, h2, h3, q⟩ => ?_))
  subst ey
  obtain rfl : v = Value.ref a := ry
  refine StX.star_any I1 hq fun us s2 I2 rv => ⟨trivial, ?_⟩
  rw [refs_vals rv, addrs_eq, hl]
  obtain ⟨its, hits⟩ := rows_at I2 hl h3
  have hB : ∀ j, j < rows.length → as.getD j 0 < s2.heap.objs.size := fun j hj => by
    obtain ⟨o, ho, _⟩ := (hits j hj).2
    exact Heap.lt_size ho
  refine call_zipN h0 h1 (fun j hj => (hits j hj).2) fun h' z k => self_zip (s := { s2 with heap := h' }) z ?_
  refine ⟨s2.heap.objs.size + rows.length + 2, fps s2.heap.objs.size rows.length, _, _, H1, rfl, I2.kept (t' := s2.toks) k, turn_zipN hl h0 h1 h2 hB, z, fun b hb => ?_, q⟩
  have hle := (mem_fps.mp hb).1
  exact I2.fpOk hle (I2.hok.fresh hle)
end ZN
namespace DL
open PySem PySem.Spec PyProof.Rows L2
section
variable {X : Cx} {b : Option Addr} {e : Expr} {pos : Pos} {K : PySem.W.Frag} {Fx : Hp}
/-- the columns of rows of m items -/
def colsD (rs : List (List Dt)) (m : Nat) : List Dt := (List.range m).map fun i => .tup (rs.map fun r => r.getD i .non)
theorem colsD_len (rs : List (List Dt)) (m : Nat) : (colsD rs m).length = m := by unfold colsD; simp
theorem colsD_at {rs : List (List Dt)} {m i : Nat} {d : Dt} (h : (colsD rs m)[i]? = some d) : i < m ∧ d = .tup (rs.map fun r => r.getD i .non) := by
  have hi : i < m := by have := (List.getElem?_eq_some_iff.mp h).1; rw [colsD_len] at this; exact this
  unfold colsD at h
  rw [List.getElem?_map, List.getElem?_range hi] at h
  exact ⟨hi, (Option.some.inj h).symm⟩
@[reducible] def iZS (Te : DT) : DAt := fun γ P => Te γ fun x => ∃ (rs : List (List Dt)) (m : Nat), (x = .tup (rs.map Dt.tup) ∨ x = .lst (rs.map Dt.tup)) ∧ 0 < rs.length ∧ rs.length ≤ 100000 ∧ (∀ r, r ∈ rs → r.length = m) ∧ P (colsD rs m)
theorem rep_tups : ∀ {rs : List (List Dt)} {vs : List V}, RepL b Fx vs (rs.map Dt.tup) → ∃ (as : List Addr) (rows : List (List V)), vs = as.map V.ref ∧ as.length = rs.length ∧ rows.length = rs.length ∧ ∀ (j : Nat) (r : List Dt), rs[j]? = some r → ∃ a xs, as[j]? = some a ∧ rows[j]? = some xs ∧ Fx a = some (.tup xs) ∧ RepL b Fx xs r
  | [], _, h => by
    cases h
    exact ⟨[], [], rfl, rfl, rfl, fun j r e => by simp at e⟩
  | r :: rs, _, h => by
    cases h with
    | cons ra rb =>
      cases ra with
      | tup e q =>
        rename_i a0 xs0
        obtain ⟨as, rows, rfl, h1, h2, h3⟩ := rep_tups rb
        refine ⟨a0 :: as, xs0 :: rows, rfl, by simp [h1], by simp [h2], fun j r' e' => ?_⟩
        cases j with
        | zero =>
          have e2 : r = r' := by simpa using e'
          subst e2
          exact ⟨_, _, rfl, rfl, e, q⟩
        | succ j => exact h3 j r' (by simpa using e')
theorem repl_map {rows : List (List V)} {rs : List (List Dt)} {i m : Nat} (hl : rows.length = rs.length) (hm : ∀ r, r ∈ rs → r.length = m) (hi : i < m) (h : ∀ (j : Nat) (xs : List V) (r : List Dt), rows[j]? = some xs → rs[j]? = some r → RepL b Fx xs r) :
    RepL b Fx (rows.map fun xs => xs.getD i .non) (rs.map fun r => r.getD i .non) := by
  induction rows generalizing rs with
  | nil =>
    cases rs with
    | nil => exact .nil
    | cons _ _ => simp at hl
  | cons xs rows ih =>
    cases rs with
    | nil => simp at hl
    | cons r rs =>
      have q := h 0 xs r rfl rfl
      have hr : r.length = m := hm r List.mem_cons_self
      obtain ⟨v, hv, rv⟩ := q.get' (List.getElem?_eq_getElem (show i < r.length by omega))
      refine .cons ?_ (ih (by simpa using hl) (fun r' hr' => hm r' (List.mem_cons_of_mem _ hr')) fun j xs' r' e1 e2 => h (j + 1) xs' r' (by simpa using e1) (by simpa using e2))
      show Rep b Fx (xs.getD i .non) (r.getD i .non)
      rw [List.getD_eq_getElem?_getD, hv, List.getD_eq_getElem?_getD, List.getElem?_eq_getElem (show i < r.length by omega)]
      exact rv
theorem walkd_zipN {as : List Addr} {rows : List (List V)} {rs : List (List Dt)} {m : Nat} (hl1 : as.length = rs.length) (hl2 : rows.length = rs.length) (hm : ∀ r, r ∈ rs → r.length = m) (h : ∀ (j : Nat) (r : List Dt), rs[j]? = some r → ∃ a xs, as[j]? = some a ∧ rows[j]? = some xs ∧ Fx a = some (.tup xs) ∧ RepL b Fx xs r) :
    WalkD b (ZN.ItN K as rows m) Fx (colsD rs m) := by
  have g : ∀ H, Sub Fx H → ∀ j a xs, as[j]? = some a → rows[j]? = some xs → SqT K H a xs := fun H s j a xs e1 e2 => by
    have hj : j < rs.length := by rw [← hl1]; exact (List.getElem?_eq_some_iff.mp e1).1
    obtain ⟨a', xs', f1, f2, f3, _⟩ := h j _ (List.getElem?_eq_getElem hj)
    rw [e1] at f1; rw [e2] at f2
    cases f1; cases f2
    exact SqT.of (s _ _ f3)
  refine ⟨fun i H v H' => ∃ T, v = .ref T ∧ H T = none ∧ H' = upd H T (.tup (rows.map fun xs => xs.getD i .non)), ⟨fun i H hi s => ⟨by rw [colsD_len] at hi; exact hi, g H s⟩, fun H s => ⟨by rw [colsD_len]; exact Nat.le_refl _, g H s⟩, fun i H x H' _ _ y => y⟩, fun i H x H' hi y => ?_⟩
  rw [colsD_len] at hi
  obtain ⟨T, e1, e2, e3⟩ := y
  refine ⟨.tup (rs.map fun r => r.getD i .non), ?_, .inr ⟨T, _, _, e1, e2, e3, repl_map hl2 hm hi fun j xs r q1 q2 => ?_, rfl⟩⟩
  · unfold colsD
    rw [List.getElem?_map, List.getElem?_range hi] <;> rfl
  · obtain ⟨a', xs', f1, f2, f3, f4⟩ := h j r q2
    rw [q1] at f2
    cases f2
    exact f4
theorem i_zipS {x : Str} {tpos p sp : Pos} (hg : Gl X "zip") (hm : X.mg "zip" = none) (he : XE X b e Te) (hs : starEach [.Starred e sp] X.env = [(true, eval e X.env)] := by rfl) :
    XI X b (.Name x tpos) (.Call (.Name "zip" p) [.Starred e sp] [] pos) (iZS Te) := by
  obtain ⟨_, h1, h2⟩ := he
  refine ⟨_, ZN.pi_zipS hg hm h1 hs, fun P n t R q => h2 _ n t _ fun v d F1 H1 x1 r1 t1 => ?_⟩
  obtain ⟨rs, m, ed, l0, l1, lm, t1⟩ := t1
  rcases ed with rfl | rfl
  · cases r1 with
    | tup h r =>
      obtain ⟨as, rows, rfl, k1, k2, k3⟩ := rep_tups r
      refine ⟨_, as, rows, m, rfl, .inl (SqT.of (x1.sub _ _ h)), by omega, by omega, by omega, fun j xs e => ?_, fun j a xs e1 e2 => ?_, q _ _ F1 H1 x1 (walkd_zipN k1 k2 lm k3) t1⟩
      · have hj : j < rs.length := by rw [← k2]; exact (List.getElem?_eq_some_iff.mp e).1
        obtain ⟨a', xs', f1, f2, f3, f4⟩ := k3 j _ (List.getElem?_eq_getElem hj)
        rw [e] at f2; cases f2
        rw [f4.length]
        exact lm _ (List.getElem_mem hj)
      · have hj : j < rs.length := by rw [← k2]; exact (List.getElem?_eq_some_iff.mp e2).1
        obtain ⟨a', xs', f1, f2, f3, f4⟩ := k3 j _ (List.getElem?_eq_getElem hj)
        rw [e1] at f1; rw [e2] at f2; cases f1; cases f2
        exact SqT.of (x1.sub _ _ f3)
  · cases r1 with
    | lst h r =>
      obtain ⟨as, rows, rfl, k1, k2, k3⟩ := rep_tups r
      refine ⟨_, as, rows, m, rfl, .inr (SqL.of (x1.sub _ _ h)), by omega, by omega, by omega, fun j xs e => ?_, fun j a xs e1 e2 => ?_, q _ _ F1 H1 x1 (walkd_zipN k1 k2 lm k3) t1⟩
      · have hj : j < rs.length := by rw [← k2]; exact (List.getElem?_eq_some_iff.mp e).1
        obtain ⟨a', xs', f1, f2, f3, f4⟩ := k3 j _ (List.getElem?_eq_getElem hj)
        rw [e] at f2; cases f2
        rw [f4.length]
        exact lm _ (List.getElem_mem hj)
      · have hj : j < rs.length := by rw [← k2]; exact (List.getElem?_eq_some_iff.mp e2).1
        obtain ⟨a', xs', f1, f2, f3, f4⟩ := k3 j _ (List.getElem?_eq_getElem hj)
        rw [e1] at f1; rw [e2] at f2; cases f1; cases f2
        exact SqT.of (x1.sub _ _ f3)
end
end DL

local macro_rules | `(tactic| walk_at "side") => `(tactic| first | exact Nat.le_of_ble_eq_true rfl | omega | decide | decide +kernel | exact Or.inr (by decide) | exact Or.inl (by decide) | (dsimp only; exact Or.inl (by omega)) | (dsimp only; exact Or.inr (by omega)) | (dsimp only; omega) | exact ⟨by omega, by omega⟩ | assumption | trivial | rfl | (intro z hz; cases hz <;> omega))
local macro_rules | `(tactic| walk_at "go1") => `(tactic| with_reducible conv => whnf)
local macro_rules | `(tactic| walk_at "go2") => `(tactic| first | ((with_reducible refine Exists.intro ?ww (And.intro ?hh ?_)); (case hh => rfl)) | ((with_reducible refine And.intro ?hs ?_); (case hs => walk_at "side")) | ((with_reducible refine And.intro ?hs (Exists.intro ?ww (And.intro ?hh ?_))); (case hh => rfl); (case hs => walk_at "side")))
local macro_rules | `(tactic| walk_at "go3") => `(tactic| first | walk_at "go2" | with_reducible refine DL.dAnd_go ?_ | with_reducible refine DL.dOr_go ?_ | with_reducible refine DL.dChI_go ?_)
local macro_rules | `(tactic| walk_at "go") => `(tactic| (walk_at "go1"; repeat' (walk_at "go3"; walk_at "go1")); try dsimp only)
local macro_rules | `(tactic| walk_at "gs") => `(tactic| (walk_at "go1"; repeat' (walk_at "go2"; walk_at "go1")); try dsimp only)
namespace Pf
open PySem PySem.Spec PyProof.Rows L2 DL
def topS (i : Nat) : Stmt := PySem.Challenge.pw_twinbegun_k12_products_of_tables.main.body.getD i (.Pass ⟨0, 0, 0, 0⟩)
abbrev s_bag : Stmt := topS 5
abbrev N_bag : List Str := ["_law_script", "_law_cells", "_law_mixed", "_law_cell"]
abbrev P_bag : List Str := ["_law_script"]
theorem sc_bag : FnScope N_bag P_bag (defScope s_bag) := ⟨rfl, rfl, rfl, by decide +kernel, rfl, by decide +kernel, by decide +kernel⟩
abbrev s_times : Stmt := topS 9
abbrev N_times : List Str := ["_law_row_z", "_law_table_z", "_law_j", "_law_i"]
abbrev P_times : List Str := ["_law_row_z", "_law_table_z"]
theorem sc_times : FnScope N_times P_times (defScope s_times) := ⟨rfl, rfl, rfl, by decide +kernel, rfl, by decide +kernel, by decide +kernel⟩
abbrev s_take : Stmt := topS 6
abbrev N_take : List Str := ["_law_bag_here", "_law_many", "_law_cell", "_law_digit", "_law_old"]
abbrev P_take : List Str := ["_law_bag_here", "_law_many"]
theorem sc_take : FnScope N_take P_take (defScope s_take) := ⟨rfl, rfl, rfl, by decide +kernel, rfl, by decide +kernel, by decide +kernel⟩
abbrev s_of : Stmt := topS 7
abbrev N_of : List Str := ["_law_bag_here", "_law_things"]
abbrev P_of : List Str := ["_law_bag_here", "_law_things"]
theorem sc_of : FnScope N_of P_of (defScope s_of) := ⟨rfl, rfl, rfl, by decide +kernel, rfl, by decide +kernel, by decide +kernel⟩
abbrev s_numbers : Stmt := topS 10
abbrev N_numbers : List Str := ["_law_bag_here", "_law_many", "_law_k"]
abbrev P_numbers : List Str := ["_law_bag_here", "_law_many"]
theorem sc_numbers : FnScope N_numbers P_numbers (defScope s_numbers) := ⟨rfl, rfl, rfl, by decide +kernel, rfl, by decide +kernel, by decide +kernel⟩
abbrev s_same : Stmt := topS 8
abbrev N_same : List Str := ["_law_found", "_law_due", "_law_one_z", "_law_two"]
abbrev P_same : List Str := ["_law_found", "_law_due"]
theorem sc_same : FnScope N_same P_same (defScope s_same) := ⟨rfl, rfl, rfl, by decide +kernel, rfl, by decide +kernel, by decide +kernel⟩
abbrev s_lines : Stmt := topS 11
abbrev N_lines : List Str := ["_law_bag_here", "_law_many", "_law_width_z", "_law_found", "_law_k", "_law_row_z", "_law_one_z", "_law_two", "_law_c", "_law_a", "_law_b"]
abbrev P_lines : List Str := ["_law_bag_here", "_law_many", "_law_width_z"]
theorem sc_lines : FnScope N_lines P_lines (defScope s_lines) := ⟨rfl, rfl, rfl, by decide +kernel, rfl, by decide +kernel, by decide +kernel⟩
abbrev s_row_times : Stmt := topS 2
abbrev N_row_times : List Str := ["row", "table", "column", "number", "factor"]
abbrev P_row_times : List Str := ["row", "table"]
theorem sc_row_times : FnScope N_row_times P_row_times (defScope s_row_times) := ⟨rfl, rfl, rfl, by decide +kernel, rfl, by decide +kernel, by decide +kernel⟩
abbrev s_table_times : Stmt := topS 3
abbrev N_table_times : List Str := ["one", "other", "row"]
abbrev P_table_times : List Str := ["one", "other"]
theorem sc_table_times : FnScope N_table_times P_table_times (defScope s_table_times) := ⟨rfl, rfl, rfl, by decide +kernel, rfl, by decide +kernel, by decide +kernel⟩
abbrev s_identity : Stmt := topS 1
abbrev N_identity : List Str := ["width", "index", "at"]
abbrev P_identity : List Str := ["width"]
theorem sc_identity : FnScope N_identity P_identity (defScope s_identity) := ⟨rfl, rfl, rfl, by decide +kernel, rfl, by decide +kernel, by decide +kernel⟩
abbrev s_law : Stmt := topS 12
abbrev N_law : List Str := ["_law_script", "_law_bag_here", "_law_turn", "_law_many", "_law_row_z", "_law_one_z", "_law_two", "_law_due", "_law_both", "_law_plain", "_law_line", "_law_k", "_law_j"]
abbrev P_law : List Str := ["_law_script"]
theorem sc_law : FnScope N_law P_law (defScope s_law) := ⟨rfl, rfl, rfl, by decide +kernel, rfl, by decide +kernel, by decide +kernel⟩
structure Fc (K : PySem.W.Frag) (mg : Str → Option Value) where
  z_all : mg "all" = none
  z_bool : mg "bool" = none
  z_int : mg "int" = none
  z_isinstance : mg "isinstance" = none
  z_len : mg "len" = none
  z_list : mg "list" = none
  z_range : mg "range" = none
  z_str : mg "str" = none
  z_sum : mg "sum" = none
  z_tuple : mg "tuple" = none
  z_zip : mg "zip" = none
  a_bag : Addr
  fd_bag : FuncData
  F_bag : Fun K "_law_bag" "_law_bag" s_bag a_bag fd_bag
  g_bag : mg "_law_bag" = some (.ref a_bag)
  b_bag : Binds K fd_bag P_bag []
  a_times : Addr
  fd_times : FuncData
  F_times : Fun K "_law_times" "_law_times" s_times a_times fd_times
  g_times : mg "_law_times" = some (.ref a_times)
  b_times : Binds K fd_times P_times []
  a_take : Addr
  fd_take : FuncData
  F_take : Fun K "_law_take" "_law_take" s_take a_take fd_take
  g_take : mg "_law_take" = some (.ref a_take)
  b_take : Binds K fd_take P_take []
  a_of : Addr
  fd_of : FuncData
  F_of : Fun K "_law_of" "_law_of" s_of a_of fd_of
  g_of : mg "_law_of" = some (.ref a_of)
  b_of : Binds K fd_of P_of []
  a_numbers : Addr
  fd_numbers : FuncData
  F_numbers : Fun K "_law_numbers" "_law_numbers" s_numbers a_numbers fd_numbers
  g_numbers : mg "_law_numbers" = some (.ref a_numbers)
  b_numbers : Binds K fd_numbers P_numbers []
  a_same : Addr
  fd_same : FuncData
  F_same : Fun K "_law_same" "_law_same" s_same a_same fd_same
  g_same : mg "_law_same" = some (.ref a_same)
  b_same : Binds K fd_same P_same []
  a_lines : Addr
  fd_lines : FuncData
  F_lines : Fun K "_law_lines" "_law_lines" s_lines a_lines fd_lines
  g_lines : mg "_law_lines" = some (.ref a_lines)
  b_lines : Binds K fd_lines P_lines []
  a_row_times : Addr
  fd_row_times : FuncData
  F_row_times : Fun K "row_times" "row_times" s_row_times a_row_times fd_row_times
  g_row_times : mg "row_times" = some (.ref a_row_times)
  b_row_times : Binds K fd_row_times P_row_times []
  a_table_times : Addr
  fd_table_times : FuncData
  F_table_times : Fun K "table_times" "table_times" s_table_times a_table_times fd_table_times
  g_table_times : mg "table_times" = some (.ref a_table_times)
  b_table_times : Binds K fd_table_times P_table_times []
  a_identity : Addr
  fd_identity : FuncData
  F_identity : Fun K "identity" "identity" s_identity a_identity fd_identity
  g_identity : mg "identity" = some (.ref a_identity)
  b_identity : Binds K fd_identity P_identity []
  k_row_times_table_row : KBinds K fd_row_times P_row_times ["table", "row"] (sel 0 2 [1, 0]) (sel 0 2 [1, 0])
  k_table_times_other_one : KBinds K fd_table_times P_table_times ["other", "one"] (sel 0 2 [1, 0]) (sel 0 2 [1, 0])
  k_identity_width : KBinds K fd_identity P_identity ["width"] (sel 0 1 [0]) (sel 0 1 [0])
section
variable {P : Program} {w : World} {K : PySem.W.Frag} {mg : Str → Option Value} {base : Heap} {b : Option Addr}
def cSc (ns : List (Str × NameKind)) : Scope := { kind := .function, names := ns, isGenerator := false, isCoroutine := false, more := [] }
def Bnd (B : Int) (xs : List Int) : Prop := ∀ x, x ∈ xs → -B ≤ x ∧ x ≤ B
theorem Bnd.cmul {a c : Int} (h : -(2 ^ 62) ≤ a ∧ a ≤ 2 ^ 62) : CMul a c := .inl ⟨by omega, by omega⟩
@[reducible] def rowD (xs : List Int) : Dt := .tup (xs.map Dt.int)
@[reducible] def tabD (rs : List (List Int)) : Dt := .tup (rs.map rowD)
@[reducible] def lstD (rs : List (List Int)) : Dt := .lst (rs.map rowD)
def idRow (n i : Nat) : List Int := (List.range n).map fun j => if j = i then 1 else 0
def idL (n : Nat) : List (List Int) := (List.range n).map fun i => idRow n i
def dot (xs : List Int) (rs : List (List Int)) (j : Nat) : Int := (List.zipWith (· * ·) xs (rs.map fun r => r.getD j 0)).sum
def mulV (xs : List Int) (rs : List (List Int)) (m : Nat) : List Int := (List.range m).map fun j => dot xs rs j
def mulT (xs rs : List (List Int)) (m : Nat) : List (List Int) := xs.map fun x => mulV x rs m
theorem ints_ok : ∀ xs : List Int, plainL (xs.map Dt.int) = true ∧ PyData.canLayAll0 (pyL (xs.map Dt.int)) = true ∧ PyData.depthAll (pyL (xs.map Dt.int)) = 0
  | [] => ⟨rfl, rfl, rfl⟩
  | x :: xs => by
    obtain ⟨h1, h2, h3⟩ := ints_ok xs
    refine ⟨?_, ?_, ?_⟩
    · show (plain (.int x) && plainL (xs.map Dt.int)) = true
      rw [h1] <;> rfl
    · show (PyData.canLay0 (.int x) && PyData.canLayAll0 (pyL (xs.map Dt.int))) = true
      rw [h2] <;> rfl
    · show max (PyData.depth (.int x)) (PyData.depthAll (pyL (xs.map Dt.int))) = 0
      rw [h3] <;> rfl
theorem ints_noLst : ∀ xs : List Int, noLstL (xs.map Dt.int) = true
  | [] => rfl
  | x :: xs => by
    show (noLst (.int x) && noLstL (xs.map Dt.int)) = true
    rw [ints_noLst xs] <;> rfl
theorem mem_zipWith {f : Int → Int → Int} : ∀ {xs ys : List Int} {z : Int}, z ∈ List.zipWith f xs ys → ∃ a b, a ∈ xs ∧ b ∈ ys ∧ z = f a b
  | [], _, _, h => by simp at h
  | _ :: _, [], _, h => by simp at h
  | x :: xs, y :: ys, z, h => by
    rw [List.zipWith_cons_cons] at h
    rcases List.mem_cons.mp h with e | h
    · exact ⟨x, y, List.mem_cons_self, List.mem_cons_self, e⟩
    · obtain ⟨a, b, ha, hb, e⟩ := mem_zipWith h
      exact ⟨a, b, List.mem_cons_of_mem _ ha, List.mem_cons_of_mem _ hb, e⟩
theorem ints_okS : ∀ xs : List Int, okSL (xs.map Dt.int) = true ∧ depL (xs.map Dt.int) ≤ 1
  | [] => ⟨rfl, by decide⟩
  | x :: xs => by
    obtain ⟨h1, h2⟩ := ints_okS xs
    refine ⟨?_, ?_⟩
    · show (okS (.int x) && okSL (xs.map Dt.int)) = true
      rw [h1] <;> rfl
    · show max (dep (.int x)) (depL (xs.map Dt.int)) ≤ 1
      rw [show dep (.int x) = 1 from by unfold dep; rfl]
      omega
theorem row_okS {xs : List Int} (h : xs.length ≤ 1000) : okS (rowD xs) = true ∧ dep (rowD xs) ≤ 2 := by
  obtain ⟨h1, h2⟩ := ints_okS xs
  refine ⟨?_, ?_⟩
  · show (decide ((xs.map Dt.int).length ≤ 100000) && okSL (xs.map Dt.int)) = true
    rw [h1, List.length_map, decide_eq_true (by omega)] <;> rfl
  · show depL (xs.map Dt.int) + 1 ≤ 2
    omega
theorem rows_okS : ∀ {rs : List (List Int)}, (∀ r, r ∈ rs → r.length ≤ 1000) → okSL (rs.map rowD) = true ∧ depL (rs.map rowD) ≤ 2
  | [], _ => ⟨rfl, by decide⟩
  | x :: xs, h => by
    obtain ⟨h1, h2⟩ := rows_okS (rs := xs) fun r hr => h r (List.mem_cons_of_mem _ hr)
    obtain ⟨g1, g2⟩ := row_okS (h x List.mem_cons_self)
    refine ⟨?_, ?_⟩
    · show (okS (rowD x) && okSL (xs.map rowD)) = true
      rw [h1, g1] <;> rfl
    · show max (dep (rowD x)) (depL (xs.map rowD)) ≤ 2
      omega
theorem tab_okS {rs : List (List Int)} (h0 : rs.length ≤ 1000) (h : ∀ r, r ∈ rs → r.length ≤ 1000) : okS (tabD rs) = true ∧ dep (tabD rs) ≤ 3 := by
  obtain ⟨h1, h2⟩ := rows_okS h
  refine ⟨?_, ?_⟩
  · show (decide ((rs.map rowD).length ≤ 100000) && okSL (rs.map rowD)) = true
    rw [h1, List.length_map, decide_eq_true (by omega)] <;> rfl
  · show depL (rs.map rowD) + 1 ≤ 3
    omega
theorem two_okS {d : Dt} {n : Nat} (h : okS d = true ∧ dep d ≤ n) : okS (.lst [d, d]) = true ∧ dep (.lst [d, d]) ≤ n + 1 := by
  obtain ⟨h1, h2⟩ := h
  have := dep_pos d
  refine ⟨?_, ?_⟩
  · show (decide ([d, d].length ≤ 100000) && (okS d && (okS d && true))) = true
    rw [h1] <;> rfl
  · show max (dep d) (max (dep d) 0) + 1 ≤ n + 1
    omega
theorem three_okS {d e : Dt} {n : Nat} (h : okS d = true ∧ dep d ≤ n) (g : okS e = true ∧ dep e ≤ n) : okS (.lst [d, d, e]) = true ∧ dep (.lst [d, d, e]) ≤ n + 1 := by
  obtain ⟨h1, h2⟩ := h
  obtain ⟨g1, g2⟩ := g
  have := dep_pos d
  refine ⟨?_, ?_⟩
  · show (decide ([d, d, e].length ≤ 100000) && (okS d && (okS d && (okS e && true)))) = true
    rw [h1, g1] <;> rfl
  · show max (dep d) (max (dep d) (max (dep e) 0)) + 1 ≤ n + 1
    omega
theorem sum_ind : ∀ (xs : List Int) (k j : Nat), (List.zipWith (· * ·) xs ((List.range' k xs.length).map fun i => if j = i then (1 : Int) else 0)).sum = if k ≤ j ∧ j < k + xs.length then xs.getD (j - k) 0 else 0
  | [], k, j => by
    rw [if_neg (by first | (simp; done) | (simp; omega))] <;> rfl
  | x :: xs, k, j => by
    rw [List.length_cons, List.range'_succ, List.map_cons, List.zipWith_cons_cons, List.sum_cons, sum_ind xs (k + 1) j]
    by_cases h : j = k
    · subst h
      rw [if_pos rfl, if_neg (by omega), if_pos (by omega), Nat.sub_self]
      simp
    · rw [if_neg h]
      by_cases h2 : k + 1 ≤ j ∧ j < k + 1 + xs.length
      · rw [if_pos h2, if_pos (by omega), show j - k = (j - (k + 1)) + 1 from by omega]
        simp
      · rw [if_neg h2, if_neg (by omega)]
        simp
theorem mulV_id {xs : List Int} {n : Nat} (h : xs.length = n) : mulV xs (idL n) n = xs := by
  unfold mulV
  apply List.ext_getElem?
  intro j
  rw [List.getElem?_map]
  by_cases hj : j < n
  · rw [List.getElem?_range hj]
    show some (dot xs (idL n) j) = _
    have e : ((idL n).map fun r => r.getD j 0) = (List.range' 0 xs.length).map fun i => if j = i then (1 : Int) else 0 := by
      unfold idL
      rw [List.map_map, h, ← List.range_eq_range']
      apply List.map_congr_left
      intro i hi
      show (idRow n i).getD j 0 = _
      unfold idRow
      rw [List.getD_eq_getElem?_getD, List.getElem?_map, List.getElem?_range hj] <;> rfl
    unfold dot
    rw [e, sum_ind, if_pos (by omega), Nat.sub_zero, List.getD_eq_getElem?_getD, List.getElem?_eq_getElem (by omega)] <;> rfl
  · rw [List.getElem?_eq_none (by simp; omega), List.getElem?_eq_none (by omega)] <;> rfl
theorem mulV_len (xs : List Int) (rs : List (List Int)) (n : Nat) : (mulV xs rs n).length = n := by unfold mulV; simp
theorem idL_len (n : Nat) : (idL n).length = n := by unfold idL; simp
theorem idL_mem {n : Nat} {r : List Int} (h : r ∈ idL n) : r.length = n := by
  unfold idL at h
  obtain ⟨i, _, rfl⟩ := List.mem_map.mp h
  unfold idRow
  simp
theorem rows_ok : ∀ rs : List (List Int), plainL (rs.map rowD) = true ∧ PyData.canLayAll0 (pyL (rs.map rowD)) = true ∧ PyData.depthAll (pyL (rs.map rowD)) ≤ 1
  | [] => ⟨rfl, rfl, Nat.zero_le _⟩
  | x :: xs => by
    obtain ⟨h1, h2, h3⟩ := rows_ok xs
    obtain ⟨g1, g2, g3⟩ := ints_ok x
    refine ⟨?_, ?_, ?_⟩
    · show (plainL (x.map Dt.int) && plainL (xs.map rowD)) = true
      rw [h1, g1] <;> rfl
    · show (PyData.canLayAll0 (pyL (x.map Dt.int)) && PyData.canLayAll0 (pyL (xs.map rowD))) = true
      rw [h2, g2] <;> rfl
    · show max (PyData.depthAll (pyL (x.map Dt.int)) + 1) (PyData.depthAll (pyL (xs.map rowD))) ≤ 1
      rw [g3]
      omega
theorem rows_eqOk (rs : List (List Int)) : eqOk (.lst (rs.map rowD)) = true := by
  obtain ⟨h1, h2, h3⟩ := rows_ok rs
  show (plainL (rs.map rowD) && (PyData.canLayAll0 (pyL (rs.map rowD)) && decide (PyData.depthAll (pyL (rs.map rowD)) + 1 ≤ 64))) = true
  rw [h1, h2, decide_eq_true (by omega)] <;> rfl
theorem cols_int {rs : List (List Int)} {j : Nat} (h : ∀ r, r ∈ rs → j < r.length) : ((rs.map fun r => r.map Dt.int).map fun r => r.getD j .non) = (rs.map fun r => r.getD j 0).map Dt.int := by
  rw [List.map_map, List.map_map]
  apply List.map_congr_left
  intro r hr
  have := h r hr
  show (r.map Dt.int).getD j .non = Dt.int (r.getD j 0)
  rw [List.getD_eq_getElem?_getD, List.getElem?_map, List.getD_eq_getElem?_getD, List.getElem?_eq_getElem this] <;> rfl
theorem zipD_ints {xs ys : List Int} {i : Nat} {d : Dt} (h : (zipD (xs.map Dt.int) (ys.map Dt.int))[i]? = some d) : ∃ a c, xs[i]? = some a ∧ ys[i]? = some c ∧ d = .tup [.int a, .int c] := by
  unfold zipD at h
  rw [List.getElem?_zipWith, List.getElem?_map, List.getElem?_map] at h
  cases h1 : xs[i]? with
  | none => rw [h1] at h; cases h
  | some a =>
    cases h2 : ys[i]? with
    | none => rw [h1, h2] at h; cases h
    | some c => rw [h1, h2] at h; exact ⟨a, c, rfl, rfl, (Option.some.inj h).symm⟩
theorem ok_bag (Z : Fc K mg) : FnOk P w K mg base CX0 1 Z.a_bag Z.fd_bag P_bag (spBag K) := by
  refine Z.F_bag.ok sc_bag (fun vs H Q E h => ?_) (fun cdv A outer s H vs Q E hr h => ?_)
  · obtain ⟨a, ns, rfl, _⟩ := h
    rfl
  · obtain ⟨a, ns, rfl, hS, hl, q⟩ := h
    have nd := sc_bag.nd
    refine ⟨_, pss_cons (ps_setLc (i := 1) rfl nd rfl rfl (sw_true rfl rfl rfl (by decide +kernel)) (pi_list (pe_slice sl_list (pv 0) po_none (po_some pe_int))) (blkOk_by (own := [("_law_cell", 3)]) (N := N_bag) (sc := defScope s_bag) (by decide +kernel)) (fun _ _ _ _ _ => pg_name (i := 3) nd rfl (.inl rfl)) (fun _ _ _ _ _ => pts_nil)
        (fun _ _ _ _ _ => pe_callTy call_int1 (by rfl) Z.z_int (by decide +kernel) (pa_cons (pv 3) pa_nil)))
      (pss_cons (ps_set (i := 2) nd rfl (.inl rfl) (pe_op op_add pe_int (pe_op op_mul pe_int (pe_callB call_len (by rfl) Z.z_len PySem.boot_len (pa_cons (pv 1) pa_nil)))))
      (pss_cons (ps_for PassesOwn.never rfl (pi_list (pv 1)) (pg_name (i := 3) nd rfl (.inl rfl)) (pss_one (ps_set (i := 2) nd rfl (.inl rfl) (pe_op op_mod (pe_callTy call_int1 (by rfl) Z.z_int (by decide +kernel) (pa_cons (pe_op op_add (pe_op op_mul (pv 2) pe_int) (pv 3)) pa_nil)) pe_int))))
      (pss_one (ps_ret (pe_lst (pa_cons (pv 1) (pa_cons pe_int (pa_cons pe_int (pa_cons (pv 2) (pa_cons pe_int pa_nil)))))))))), ?_⟩
    exact read_bag hS hl rfl rfl (by decide) (by decide) q
def sp_times : DSp := fun ds P => ∃ (xs : List Int) (rs : List (List Int)) (m : Nat), ds = [rowD xs, tabD rs] ∧ xs.length = rs.length ∧ Bnd (2 ^ 62) xs ∧ 0 < rs.length ∧ rs.length ≤ 1000 ∧ m ≤ 1000 ∧ (∀ r, r ∈ rs → r.length = m) ∧ P (rowD (mulV xs rs m))
theorem ok_times (Z : Fc K mg)  : FnOk P w K mg base CX0 1 Z.a_times Z.fd_times P_times (spD b 2 sp_times) := by
  refine fn_D Z.F_times sc_times fun X outer cdv A s H E hX hr => ?_
  subst hX
  have nd := sc_times.nd
  refine ⟨_, (ss_one (s_ret (x_tupleOf (by rfl) Z.z_tuple (a_cons (x_l (l_lc rfl nd (vs := [2]) (i_rng1 (by rfl) Z.z_range (a_cons (x_len (by rfl) Z.z_len (a_cons (x_ix (xv 1) x_int) a_nil)) a_nil)) (blkOk_by (own := [("_law_j", 2)]) (N := N_times) (sc := (defScope s_times)) (by decide +kernel)) (fun _ => (g_name (i := 2) nd rfl (by first | exact .inl rfl | exact .inr rfl))) (fun _ => ts_nil) (fun _ => (x_sum rfl (by rfl) Z.z_sum (a_cons (x_l (l_lc rfl nd (vs := [3]) (i_rng1 (by rfl) Z.z_range (a_cons (x_len (by rfl) Z.z_len (a_cons (xv 0) a_nil)) a_nil)) (blkOk_by (own := [("_law_i", 3)]) (N := N_times) (sc := (relS (cSc [(".0", .local), ("_law_j", .cell), ("sum", .globalImplicit), ("range", .globalImplicit), ("len", .globalImplicit), ("_law_row_z", .free), ("_law_table_z", .free)]) (defScope s_times))) (by decide +kernel)) (fun _ => (g_name (i := 3) nd rfl (by first | exact .inl rfl | exact .inr rfl))) (fun _ => ts_nil) (fun _ => (x_mul (x_ix (xv 0) (xv 3)) (x_ix (x_ix (xv 1) (xv 3)) (xv 2)))) (by simp))) a_nil))) (by simp))) a_nil)))), fun ds R hl hT => ?_⟩
  obtain ⟨xs, rs, m, rfl, hx, hb, h0, h1, hm, hr, hR⟩ := hT
  rw [show startD N_times [rowD xs, tabD rs] = [.val (rowD xs), .val (tabD rs), .un, .un] from rfl]
  walk_at "gs"
  have hr0 : (List.map Dt.int rs[0]).length = m := by rw [List.length_map]; exact hr _ (List.getElem_mem h0)
  refine ⟨rowD rs[0], atI_nat (j := 0) (by rw [List.getElem?_map, List.getElem?_eq_getElem h0] <;> rfl), ?_⟩
  walk_at "go1"
  rw [hr0]
  refine ⟨by omega, by omega, by rw [rngD_len]; omega, fun j acc => acc = (List.range j).map fun k => Dt.int (dot xs rs k), rfl, fun j d acc hj _ e => ?_, fun acc _ e => ?_⟩
  · obtain ⟨hj2, rfl⟩ := rngD_at hj
    walk_at "go1"
    rw [List.length_map]
    refine ⟨by omega, by omega, by rw [rngD_len]; omega, fun i a2 => a2 = ((List.zipWith (· * ·) xs (rs.map fun r => r.getD j 0)).take i).map Dt.int, rfl, fun i d2 a2 hi _ e2 => ?_, fun a2 _ e2 => ?_⟩
    · obtain ⟨hi2, rfl⟩ := rngD_at hi
      have hix : i < xs.length := by omega
      have hir : i < rs.length := by omega
      have hrr := hr _ (List.getElem_mem hir)
      have hij : j < rs[i].length := by omega
      walk_at "go1"
      refine ⟨.int xs[i], by rw [Int.zero_add]; exact atI_nat (by rw [List.getElem?_map, List.getElem?_eq_getElem hix] <;> rfl), ?_⟩
      walk_at "go1"
      refine ⟨rowD rs[i], by rw [Int.zero_add]; exact atI_nat (by rw [List.getElem?_map, List.getElem?_eq_getElem hir] <;> rfl), ?_⟩
      walk_at "go1"
      refine ⟨.int rs[i][j], by rw [Int.zero_add]; exact atI_nat (by rw [List.getElem?_map, List.getElem?_eq_getElem hij] <;> rfl), ?_⟩
      walk_at "go1"
      refine ⟨Bnd.cmul (hb _ (List.getElem_mem hix)), ?_⟩
      dsimp only
      rw [e2, List.take_add_one, List.getElem?_zipWith, List.getElem?_eq_getElem hix, List.getElem?_map, List.getElem?_eq_getElem hir, List.map_append]
      show _ ++ [Dt.int (xs[i] * rs[i][j])] = _ ++ [Dt.int (xs[i] * rs[i].getD j 0)]
      rw [List.getD_eq_getElem?_getD, List.getElem?_eq_getElem hij] <;> rfl
    · walk_at "gs"
      refine ⟨List.zipWith (· * ·) xs (rs.map fun r => r.getD j 0), ?_, ?_⟩
      · rw [e2, rngD_len, List.take_of_length_le (by rw [List.length_zipWith]; simp; omega)]
      · walk_at "gs"
        rw [e, List.range_succ, List.map_append] <;> rfl
  · walk_at "gs"
    rw [e, rngD_len]
    have : rowD (mulV xs rs m) = Dt.tup ((List.range m).map fun k => Dt.int (dot xs rs k)) := by
      show Dt.tup _ = _
      unfold mulV
      rw [List.map_map] <;> rfl
    rw [show Int.toNat (m : Int) = m from Int.toNat_natCast m, ← this]
    exact hR

theorem ok_take (Z : Fc K mg) (a : Addr) : FnOk P w K mg base CX0 1 Z.a_take Z.fd_take P_take (spD (some a) 2 takeT) := by
  refine fn_take Z.F_take sc_take fun X outer cdv A s H E hX hr => ?_
  subst hX
  have nd := sc_take.nd
  refine ⟨_, (ss_cons (s_setIx 0 (x_lend 0 (x_addI (x_ix (xv 0) x_int) x_int)) x_int)
      (ss_cons (s_if (t_w (w_and (t_lend 0 (t_lt (x_ix (xv 0) x_int) x_int)) (w_and1 (t_lend 0 (t_lt (x_ix (xv 0) x_int) (x_len (by rfl) Z.z_len (a_cons (x_ix (xv 0) x_int) a_nil))))))) (ss_cons (s_set (i := 2) nd rfl (.inl rfl) (x_lend 0 (x_ix (x_ix (xv 0) x_int) (x_ix (xv 0) x_int))))
      (ss_cons (s_setIx 0 (x_lend 0 (x_addI (x_ix (xv 0) x_int) x_int)) x_int)
      (ss_cons (s_setIx 0 (x_lend 0 (x_mod (x_intOf (by rfl) Z.z_int (a_cons (x_addI (x_addI (x_mul (x_ix (xv 0) x_int) x_int) (x_mul (x_mod (x_intOf (by rfl) Z.z_int (a_cons (xv 2) a_nil)) x_int) x_int)) (x_ix (xv 0) x_int)) a_nil)) x_int)) x_int)
      (ss_one (s_setIx 0 (x_if (t_ge (xv 2) (x_pow x_int x_int)) (xv 2) x_int) x_int))))) ss_nil)
      (ss_cons (s_if (t_lend 0 (t_gt (x_ix (xv 0) x_int) x_int)) (ss_cons (s_set (i := 3) nd rfl (.inl rfl) (x_lend 0 (x_mod (x_intOf (by rfl) Z.z_int (a_cons (x_ix (xv 0) x_int) a_nil)) (xv 1))))
      (ss_cons (s_setIx 0 (x_lend 0 (x_fdiv (x_ix (xv 0) x_int) (xv 1))) x_int)
      (ss_one (s_ret (xv 3))))) ss_nil)
      (ss_cons (s_set (i := 4) nd rfl (.inl rfl) (x_lend 0 (x_mod (x_intOf (by rfl) Z.z_int (a_cons (x_addI (x_ix (xv 0) x_int) (x_mul (x_ix (xv 0) x_int) x_int)) a_nil)) x_int)))
      (ss_cons (s_setIx 0 (x_mod (x_intOf (by rfl) Z.z_int (a_cons (x_addI (x_addI (x_mul (xv 4) (xv 4)) (x_mul (xv 4) x_int)) x_int) a_nil)) x_int) x_int)
      (ss_one (s_ret (x_lend 0 (x_mod (x_intOf (by rfl) Z.z_int (a_cons (x_addI (x_fdiv (x_ix (xv 0) x_int) x_int) (x_mul (x_mod (x_intOf (by rfl) Z.z_int (a_cons (x_ix (xv 0) x_int) a_nil)) x_int) x_int)) a_nil)) (xv 1)))))))))), ?_⟩
  intro cs i v m z n hcs m0 m1 n0 n1
  have e0 : ∀ x : Int, 0 ≤ x % 2147483563 := fun x => Int.emod_nonneg _ (by decide)
  have e1 : ∀ x : Int, x % 2147483563 < 2147483563 := fun x => Int.emod_lt_of_pos _ (by decide)
  have r0 : ∀ x : Int, 0 ≤ x % n := fun x => Int.emod_nonneg _ (by omega)
  have r1 : ∀ x : Int, x % n < n := fun x => Int.emod_lt_of_pos _ n0
  walk_at "go"
  split <;> walk_at "go"
  · split <;> rename_i hb <;> walk_at "go"
    · have hi : i < cs.length := by
        have h2 := of_decide_eq_true hb
        rw [List.length_map] at h2
        omega
      refine ⟨.int cs[i], ?_, ?_⟩
      · exact atI_nat (by rw [List.getElem?_map, List.getElem?_eq_getElem hi] <;> rfl)
      walk_at "go"
      split <;> walk_at "go"
      · split <;> walk_at "go" <;> (refine' takeEnd (i + 1) ?h ?a ?b ?c ?d; (case h => exact rfl); (case a => exact e0 _); (case b => exact e1 _); (case c => exact r0 _); (case d => exact r1 _))
      · split <;> rename_i hz
        · exact absurd hz (by decide)
        walk_at "go"
        (refine' takeEnd (i + 1) ?h ?a ?b ?c ?d; (case h => exact rfl); (case a => exact e0 _); (case b => exact e1 _); (case c => exact r0 _); (case d => exact r1 _))
    · split <;> walk_at "go" <;> first | (refine' takeEnd i ?h ?a ?b ?c ?d; (case h => exact rfl); (case a => exact m0); (case b => exact m1); (case c => exact r0 _); (case d => exact r1 _)) | (refine' takeEnd i ?h ?a ?b ?c ?d; (case h => exact rfl); (case a => exact e0 _); (case b => exact e1 _); (case c => exact r0 _); (case d => exact r1 _))
  · split <;> walk_at "go" <;> first | (refine' takeEnd i ?h ?a ?b ?c ?d; (case h => exact rfl); (case a => exact m0); (case b => exact m1); (case c => exact r0 _); (case d => exact r1 _)) | (refine' takeEnd i ?h ?a ?b ?c ?d; (case h => exact rfl); (case a => exact e0 _); (case b => exact e1 _); (case c => exact r0 _); (case d => exact r1 _))

theorem ok_of (Z : Fc K mg) (G_take : FnOk P w K mg base CX0 1 Z.a_take Z.fd_take P_take (spD b 2 takeT)) : FnOk P w K mg base CX0 2 Z.a_of Z.fd_of P_of (spD b 2 ofT) := by
  refine fn_D Z.F_of sc_of fun X outer cdv A s H E hX hr => ?_
  subst hX
  have nd := sc_of.nd
  refine ⟨_, (ss_one (s_ret (x_ix (xv 1) (x_call (CX := CX0) (G_take) (hr.mono (by decide)) (by rfl) Z.g_take Z.F_take.kp Z.b_take (a_cons (xv 0) (a_cons (x_len (by rfl) Z.z_len (a_cons (xv 1) a_nil)) a_nil)))))), fun ds R hl hT => ?_⟩
  match ds, hT with
  | [.bag, .lst xs], ⟨h1, h2, h3⟩ =>
    rw [show startD N_of [Dt.bag, Dt.lst xs] = [.val .bag, .val (.lst xs)] from rfl]
    walk_at "go"
    intro r q0 q1
    obtain ⟨d, d1, d2⟩ := atI_mem q0 q1
    exact ⟨d, d2, h3 d d1⟩
  | [.bag, .tup xs], ⟨h1, h2, h3⟩ =>
    rw [show startD N_of [Dt.bag, Dt.tup xs] = [.val .bag, .val (.tup xs)] from rfl]
    walk_at "go"
    intro r q0 q1
    obtain ⟨d, d1, d2⟩ := atI_mem q0 q1
    exact ⟨d, d2, h3 d d1⟩
  | [.bag, .str z], ⟨h1, h2, h3⟩ =>
    rw [show startD N_of [Dt.bag, Dt.str z] = [.val .bag, .val (.str z)] from rfl]
    walk_at "go"
    intro r q0 q1
    have hz : z.length = z.cps.toList.length := rfl
    obtain ⟨c, d1, d2⟩ := atI_mem (xs := z.cps.toList) q0 (by rw [← hz]; exact q1)
    exact ⟨h2, c, d2, h3 c d1⟩

@[reducible] def sp_numbers : DSp := fun ds P => match ds with
  | [.bag, .int n] => 0 ≤ n ∧ n ≤ 1000 ∧ ∀ xs : List Int, xs.length = n.toNat → Bnd (2 ^ 29) xs → P (rowD xs)
  | _ => False
theorem ok_numbers (Z : Fc K mg) (G_of : FnOk P w K mg base CX0 2 Z.a_of Z.fd_of P_of (spD b 2 ofT)) (G_take : FnOk P w K mg base CX0 1 Z.a_take Z.fd_take P_take (spD b 2 takeT)) : FnOk P w K mg base CX0 3 Z.a_numbers Z.fd_numbers P_numbers (spD b 2 sp_numbers) := by
  refine fn_D Z.F_numbers sc_numbers fun X outer cdv A s H E hX hr => ?_
  subst hX
  have nd := sc_numbers.nd
  refine ⟨_, (ss_one (s_ret (x_tupleOf (by rfl) Z.z_tuple (a_cons (x_l (l_lc rfl nd (vs := [2]) (i_rng1 (by rfl) Z.z_range (a_cons (xv 1) a_nil)) (blkOk_by (own := [("_law_k", 2)]) (N := N_numbers) (sc := (defScope s_numbers)) (by decide +kernel)) (fun _ => (g_name (i := 2) nd rfl (by first | exact .inl rfl | exact .inr rfl))) (fun _ => ts_nil) (fun _ => (x_call (CX := CX0) (G_of) (hr.mono (by decide)) (by rfl) Z.g_of Z.F_of.kp Z.b_of (a_cons (xv 0) (a_cons (x_l (l_lst (a_cons x_int (a_cons x_int (a_cons x_int (a_cons (x_neg x_int) (a_cons (x_sub (x_call (CX := CX0) (G_take) (hr.mono (by decide)) (by rfl) Z.g_take Z.F_take.kp Z.b_take (a_cons (xv 0) (a_cons x_int a_nil))) x_int) (a_cons (x_sub (x_call (CX := CX0) (G_take) (hr.mono (by decide)) (by rfl) Z.g_take Z.F_take.kp Z.b_take (a_cons (xv 0) (a_cons (x_pow x_int x_int) a_nil))) (x_mul x_int (x_pow x_int x_int))) a_nil)))))))) a_nil)))) (by simp))) a_nil)))), fun ds R hl hT => ?_⟩
  match ds, hT with
  | [.bag, .int n], ⟨h0, h1, hR⟩ =>
    rw [show startD N_numbers [Dt.bag, Dt.int n] = [.val .bag, .val (.int n), .un] from rfl]
    walk_at "gs"
    refine ⟨by rw [rngD_len]; omega, fun i acc => ∃ ys : List Int, acc = ys.map Dt.int ∧ ys.length = i ∧ Bnd (2 ^ 29) ys, ⟨[], rfl, rfl, fun x hx => by cases hx⟩, fun i d acc hi _ hA => ?_, fun acc _ hA => ?_⟩
    · obtain ⟨ys, rfl, hl, hy⟩ := hA
      walk_at "gs"
      intro t t0 t1
      walk_at "gs"
      intro u u0 u1
      walk_at "gs"
      intro d hd
      have e9 : (10 : Int) ^ Int.toNat 9 = 1000000000 := by decide
      have e8 : (10 : Int) ^ Int.toNat 8 = 100000000 := by decide
      rw [e9] at u1
      rw [e8] at hd
      have hd2 : ∃ v : Int, d = .int v ∧ -(2 ^ 29) ≤ v ∧ v ≤ 2 ^ 29 := by
        simp only [List.mem_cons, List.not_mem_nil, or_false] at hd
        rcases hd with h | h | h | h | h | h <;> exact ⟨_, h, by omega, by omega⟩
      obtain ⟨v, rfl, v1, v2⟩ := hd2
      refine ⟨ys ++ [v], by rw [List.map_append] <;> rfl, by rw [List.length_append, hl] <;> rfl, fun x hx => ?_⟩
      rcases List.mem_append.mp hx with h | h
      · exact hy x h
      · obtain rfl := List.mem_singleton.mp h
        exact ⟨v1, v2⟩
    · obtain ⟨ys, rfl, hl, hy⟩ := hA
      walk_at "gs"
      rw [rngD_len] at hl
      exact hR ys hl hy

theorem ok_same (Z : Fc K mg) : ∀ n : Nat, FnOk P w K mg base CX0 (n + 1) Z.a_same Z.fd_same P_same (spD b 2 (sameT n))
  | 0 => sameT_zero
  | n + 1 => by
    have G_same : FnOk P w K mg base CX0 (n + 1) Z.a_same Z.fd_same P_same (spD b 2 (sameT n)) := ok_same Z n
    refine fn_D Z.F_same sc_same fun X outer cdv A s H E hX hr => ?_
    subst hX
    have nd := sc_same.nd
    refine ⟨_, (ss_cons (s_if (t_isN (xv 1)) (ss_one (s_ret (x_isN (xv 0)))) ss_nil)
      (ss_cons (s_if (t_w (w_or (t_val (x_isi1 kit_kbool (by rfl) Z.z_isinstance (by rfl) Z.z_bool (by decide +kernel) (xv 1))) (w_or1 (t_val (x_isi1 kit_kbool (by rfl) Z.z_isinstance (by rfl) Z.z_bool (by decide +kernel) (xv 0)))))) (ss_one (s_ret (x_and (x_isi1 kit_kbool (by rfl) Z.z_isinstance (by rfl) Z.z_bool (by decide +kernel) (xv 1)) (x_and (x_isi1 kit_kbool (by rfl) Z.z_isinstance (by rfl) Z.z_bool (by decide +kernel) (xv 0)) (x_one (x_eq hr.units (xv 0) (xv 1))))))) ss_nil)
      (ss_cons (s_if (t_val (x_isi2 kit_kint kit_kstr (by rfl) Z.z_isinstance (by rfl) Z.z_int (by decide +kernel) (by rfl) Z.z_str (by decide +kernel) (xv 1))) (ss_one (s_ret (x_and (x_isi2 kit_kint kit_kstr (by rfl) Z.z_isinstance (by rfl) Z.z_int (by decide +kernel) (by rfl) Z.z_str (by decide +kernel) (xv 0)) (x_and (x_eq hr.units (x_isi1 kit_kint (by rfl) Z.z_isinstance (by rfl) Z.z_int (by decide +kernel) (xv 0)) (x_isi1 kit_kint (by rfl) Z.z_isinstance (by rfl) Z.z_int (by decide +kernel) (xv 1))) (x_one (x_eq hr.units (xv 0) (xv 1))))))) ss_nil)
      (ss_cons (s_if (t_w (w_or (t_ne hr.units (x_isi1 kit_klist (by rfl) Z.z_isinstance (by rfl) Z.z_list (by decide +kernel) (xv 1)) (x_isi1 kit_klist (by rfl) Z.z_isinstance (by rfl) Z.z_list (by decide +kernel) (xv 0))) (w_or1 (t_ne hr.units (x_isi1 kit_ktuple (by rfl) Z.z_isinstance (by rfl) Z.z_tuple (by decide +kernel) (xv 1)) (x_isi1 kit_ktuple (by rfl) Z.z_isinstance (by rfl) Z.z_tuple (by decide +kernel) (xv 0)))))) (ss_one (s_ret x_bl)) ss_nil)
      (ss_cons (s_if (t_w (w_or (t_not (t_val (x_isi2 kit_klist kit_ktuple (by rfl) Z.z_isinstance (by rfl) Z.z_list (by decide +kernel) (by rfl) Z.z_tuple (by decide +kernel) (xv 0)))) (w_or1 (t_ne hr.units (x_len (by rfl) Z.z_len (a_cons (xv 0) a_nil)) (x_len (by rfl) Z.z_len (a_cons (xv 1) a_nil)))))) (ss_one (s_ret x_bl)) ss_nil)
      (ss_one (s_ret (x_all rfl (by rfl) Z.z_all (a_cons (x_l (l_lc rfl nd (vs := [2, 3]) (i_zip (by rfl) Z.z_zip (a_cons (xv 0) (a_cons (xv 1) a_nil))) (blkOk_by (own := [("_law_one_z", 2), ("_law_two", 3)]) (N := N_same) (sc := (defScope s_same)) (by decide +kernel)) (fun _ => (g_tup' (m := 2) rfl (gs_cons (g_name (i := 2) nd rfl (by first | exact .inl rfl | exact .inr rfl)) (gs_cons (g_name (i := 3) nd rfl (by first | exact .inl rfl | exact .inr rfl)) gs_nil)))) (fun _ => ts_nil) (fun _ => (x_call (CX := CX0) (G_same) hr (by rfl) Z.g_same Z.F_same.kp Z.b_same (a_cons (xv 2) (a_cons (xv 3) a_nil)))) (by simp))) a_nil))))))))), fun ds R hl hT => ?_⟩
    match ds, hT with
    | [x, y], ⟨hxy, ok, hd, hR⟩ =>
    subst hxy
    rw [show startD N_same [x, x] = [.val x, .val x, .un, .un] from rfl]
    have seq : ∀ xs : List Dt, xs.length ≤ 100000 → okSL xs = true → depL xs ≤ n → ∀ γ : Gm, γ = [.val x, .val x, .un, .un] →
        dLc (fun γ P => P (zipD xs xs)) (gTu 2 (gsCons (gN 2) (gsCons (gN 3) gsNil))) (fun _ P => P true) (dCall 2 (sameT n) (aCons (dVar 2) (aCons (dVar 3) aNil))) [2, 3] γ (fun ds => ∃ ns : List Bool, [Dt.lst ds] = [Dt.lst (ns.map Dt.bl)] ∧ R (.bl (ns.all id))) := fun xs hl ho hdp γ hγ => by
      subst hγ
      have hz : (zipD xs xs).length = xs.length := by rw [zipD_len]; omega
      refine ⟨by rw [hz]; exact hl, fun i acc => acc = List.replicate i (.bl true), rfl, fun i d acc hi _ e => ?_, fun acc _ e => ?_⟩
      · have hx : ∃ z, xs[i]? = some z ∧ d = .tup [z, z] := by
          have h2 := hi
          unfold zipD at h2
          rw [List.getElem?_zipWith] at h2
          cases e3 : xs[i]? with
          | none => rw [e3] at h2; cases h2
          | some z => rw [e3] at h2; exact ⟨z, rfl, (Option.some.inj h2).symm⟩
        obtain ⟨z, hz1, rfl⟩ := hx
        have hm := List.mem_of_getElem? hz1
        walk_at "go1"
        refine ⟨rfl, ?_⟩
        walk_at "go1"
        refine ⟨rfl, rfl, okSL_mem ho hm, Nat.le_trans (depL_mem hm) hdp, ?_⟩
        show acc ++ [Dt.bl true] = List.replicate (i + 1) (.bl true)
        rw [e, List.replicate_succ']
      · refine ⟨List.replicate xs.length true, ?_, ?_⟩
        · rw [e, hz, List.map_replicate]
        · have hall : (List.replicate xs.length true).all id = true := by
            rw [List.all_eq_true]
            intro b hb
            exact List.eq_of_mem_replicate hb
          rw [hall]
          exact hR
    cases x with
    | non => walk_at "go"; exact hR
    | bl k => walk_at "go"; cases k <;> exact hR
    | int k =>
      walk_at "go"
      rw [show (decide (k = k)) = true from decide_eq_true rfl]
      exact hR
    | str k =>
      walk_at "go"
      rw [show (decide (k = k)) = true from decide_eq_true rfl]
      exact hR
    | lst xs =>
      have ok2 : (decide (xs.length ≤ 100000) && okSL xs) = true := ok
      rw [Bool.and_eq_true] at ok2
      have hd2 : depL xs + 1 ≤ n + 1 := hd
      walk_at "go"
      rw [show (decide ((xs.length : Int) = (xs.length : Int))) = true from decide_eq_true rfl]
      walk_at "go1"
      exact seq xs (of_decide_eq_true ok2.1) ok2.2 (by omega) _ rfl
    | tup xs =>
      have ok2 : (decide (xs.length ≤ 100000) && okSL xs) = true := ok
      rw [Bool.and_eq_true] at ok2
      have hd2 : depL xs + 1 ≤ n + 1 := hd
      walk_at "go"
      rw [show (decide ((xs.length : Int) = (xs.length : Int))) = true from decide_eq_true rfl]
      walk_at "go1"
      exact seq xs (of_decide_eq_true ok2.1) ok2.2 (by omega) _ rfl
    | ins C fs => cases ok
    | dT kvs => cases ok
    | bag => cases ok

@[reducible] def sp_lines : DSp := fun ds P => match ds with
  | [.bag, .int n, .int m] => 0 ≤ n ∧ n ≤ 8 ∧ 0 ≤ m ∧ m ≤ 1000 ∧ ∀ rs : List (List Int), rs.length = n.toNat → (∀ r, r ∈ rs → r.length = m.toNat ∧ Bnd (2 ^ 62) r) → P (lstD rs)
  | _ => False
theorem ok_lines (Z : Fc K mg) (G_numbers : FnOk P w K mg base CX0 3 Z.a_numbers Z.fd_numbers P_numbers (spD b 2 sp_numbers)) (G_take : FnOk P w K mg base CX0 1 Z.a_take Z.fd_take P_take (spD b 2 takeT)) (G_of : FnOk P w K mg base CX0 2 Z.a_of Z.fd_of P_of (spD b 2 ofT)) : FnOk P w K mg base CX0 4 Z.a_lines Z.fd_lines P_lines (spD b 3 sp_lines) := by
  refine fn_D Z.F_lines sc_lines fun X outer cdv A s H E hX hr => ?_
  subst hX
  have nd := sc_lines.nd
  refine ⟨_, (ss_cons (s_setL (i := 3) nd rfl (.inl rfl) (l_lst a_nil))
      (ss_cons (s_for rfl (i_rng1 (by rfl) Z.z_range (a_cons (xv 1) a_nil)) (g_name (i := 4) nd rfl (by first | exact .inl rfl | exact .inr rfl)) (ss_cons (s_set (i := 5) nd rfl (.inl rfl) (x_call (CX := CX0) (G_numbers) (hr.mono (by decide)) (by rfl) Z.g_numbers Z.F_numbers.kp Z.b_numbers (a_cons (xv 0) (a_cons (xv 2) a_nil))))
      (ss_cons (s_if (t_w (w_and (t_lend 3 (t_ne hr.units (xv 3) (x_l (l_lst a_nil)))) (w_and1 (t_eq hr.units (x_call (CX := CX0) (G_take) (hr.mono (by decide)) (by rfl) Z.g_take Z.F_take.kp Z.b_take (a_cons (xv 0) (a_cons x_int a_nil))) x_int)))) (ss_cons (s_asg (x_lend 3 (x_tup (a_cons (x_call (CX := CX0) (G_of) (hr.mono (by decide)) (by rfl) Z.g_of Z.F_of.kp Z.b_of (a_cons (xv 0) (a_cons (xv 3) a_nil))) (a_cons (x_call (CX := CX0) (G_of) (hr.mono (by decide)) (by rfl) Z.g_of Z.F_of.kp Z.b_of (a_cons (xv 0) (a_cons (xv 3) a_nil))) (a_cons (x_sub (x_call (CX := CX0) (G_take) (hr.mono (by decide)) (by rfl) Z.g_take Z.F_take.kp Z.b_take (a_cons (xv 0) (a_cons x_int a_nil))) x_int) a_nil))))) (g_tup' (m := 3) rfl (gs_cons (g_name (i := 6) nd rfl (by first | exact .inl rfl | exact .inr rfl)) (gs_cons (g_name (i := 7) nd rfl (by first | exact .inl rfl | exact .inr rfl)) (gs_cons (g_name (i := 8) nd rfl (by first | exact .inl rfl | exact .inr rfl)) gs_nil)))))
      (ss_one (s_set (i := 5) nd rfl (.inl rfl) (x_tupleOf (by rfl) Z.z_tuple (a_cons (x_l (l_lc rfl nd (vs := [9, 10]) (i_zip (by rfl) Z.z_zip (a_cons (xv 6) (a_cons (xv 7) a_nil))) (blkOk_by (own := [("_law_a", 9), ("_law_b", 10)]) (N := N_lines) (sc := (defScope s_lines)) (by decide +kernel)) (fun _ => (g_tup' (m := 2) rfl (gs_cons (g_name (i := 9) nd rfl (by first | exact .inl rfl | exact .inr rfl)) (gs_cons (g_name (i := 10) nd rfl (by first | exact .inl rfl | exact .inr rfl)) gs_nil)))) (fun _ => ts_nil) (fun _ => (x_addI (xv 9) (x_mul (xv 8) (xv 10)))) (by simp))) a_nil))))) ss_nil)
      (ss_one (s_app 3 (xv 5))))))
      (ss_one (s_retO 3)))), fun ds R hl hT => ?_⟩
  match ds, hT with
  | [.bag, .int n, .int m], ⟨h0, h1, h2, h3, hR⟩ =>
    rw [show startD N_lines [Dt.bag, Dt.int n, Dt.int m] = [.val .bag, .val (.int n), .val (.int m), .un, .un, .un, .un, .un, .un, .un, .un] from rfl]
    walk_at "gs"
    intro l
    walk_at "gs"
    refine ⟨fun i γ => ∃ (rs : List (List Int)) (s4 s5 s6 s7 s8 s9 s10 : Sl), γ = [.val .bag, .val (.int n), .val (.int m), .own l (rs.map rowD), s4, s5, s6, s7, s8, s9, s10] ∧ rs.length = i ∧ ∀ r, r ∈ rs → r.length = m.toNat ∧ Bnd (2 ^ 29 * 4 ^ i) r, ⟨[], _, _, _, _, _, _, _, rfl, rfl, fun r hr => by cases hr⟩, fun i d γ' hi hI => ?_, fun γ' hI => ?_⟩
    · obtain ⟨rs, s4, s5, s6, s7, s8, s9, s10, rfl, hl, hr⟩ := hI
      walk_at "gs"
      intro xs hx hb
      walk_at "gs"
      have hpos : (0 : Int) < 4 ^ i := Int.pow_pos (by decide)
      have e4 : (4 : Int) ^ (i + 1) = 4 ^ i * 4 := Int.pow_succ ..
      have fin : ∀ ys : List Int, ys.length = m.toNat → Bnd (2 ^ 29 * 4 ^ (i + 1)) ys → (rs ++ [ys]).length = i + 1 ∧ ∀ r, r ∈ rs ++ [ys] → r.length = m.toNat ∧ Bnd (2 ^ 29 * 4 ^ (i + 1)) r := fun ys y1 y2 => by
        refine ⟨by rw [List.length_append, hl] <;> rfl, fun r hr2 => ?_⟩
        rcases List.mem_append.mp hr2 with h | h
        · refine ⟨(hr r h).1, fun x hx2 => ?_⟩
          have := (hr r h).2 x hx2
          rw [e4]
          omega
        · obtain rfl := List.mem_singleton.mp h
          exact ⟨y1, y2⟩
      have fx := fin xs hx (fun x hx2 => by
        have := hb x hx2
        rw [e4]
        have : (1 : Int) ≤ 4 ^ i := hpos
        omega)
      refine ⟨rows_eqOk rs, by decide, ?_⟩
      have hcmp : (py (Dt.lst (rs.map rowD))).eqv (py (Dt.lst [])) = rs.isEmpty := by cases rs <;> rfl
      rw [hcmp]
      have hi2 := (rngD_at hi).1
      have hlm : (rs.map rowD).length = i := by rw [List.length_map]; exact hl
      have ea : ∀ ys : List Int, rs.map rowD ++ [rowD ys] = (rs ++ [ys]).map rowD := fun ys => by rw [List.map_append] <;> rfl
      cases he : rs.isEmpty with
      | true =>
        walk_at "gs"
        rw [ea]
        exact ⟨_, _, _, _, _, _, _, _, rfl, fx⟩
      | false =>
        have hpo : 0 < (rs.map rowD).length := by
          cases rs with
          | nil => cases he
          | cons _ _ => simp
        walk_at "gs"
        intro t t0 t1
        walk_at "gs"
        split
        · walk_at "gs"
          intro d1 hd1
          obtain ⟨r1, hr1, rfl⟩ := List.mem_map.mp hd1
          obtain ⟨l1, b1⟩ := hr r1 hr1
          walk_at "gs"
          intro d2 hd2
          obtain ⟨r2, hr2, rfl⟩ := List.mem_map.mp hd2
          obtain ⟨l2, b2⟩ := hr r2 hr2
          walk_at "gs"
          intro c c0 c1
          walk_at "gs"
          refine ⟨?_, ?_⟩
          · show (noLstL (r1.map Dt.int) && (noLstL (r2.map Dt.int) && true)) = true
            rw [ints_noLst, ints_noLst] <;> rfl
          walk_at "gs"
          refine ⟨by rw [zipD_len]; simp; omega, fun k acc => acc = ((List.zipWith (fun a b => a + (c - 3) * b) r1 r2).take k).map Dt.int, rfl, fun k d2 a2 hk _ e2 => ?_, fun a2 _ e2 => ?_⟩
          · obtain ⟨a, x, ha, hc, rfl⟩ := zipD_ints hk
            walk_at "gs"
            refine ⟨.inl ⟨by omega, by omega⟩, ?_⟩
            rw [e2, List.take_add_one, List.getElem?_zipWith, ha, hc, List.map_append] <;> rfl
          · walk_at "gs"
            have ef : a2 = (List.zipWith (fun a b => a + (c - 3) * b) r1 r2).map Dt.int := by
              rw [e2, zipD_len, List.take_of_length_le (by rw [List.length_zipWith]; simp)]
            rw [ef, show Dt.tup ((List.zipWith (fun a b => a + (c - 3) * b) r1 r2).map Dt.int) = rowD (List.zipWith (fun a b => a + (c - 3) * b) r1 r2) from rfl, ea]
            refine ⟨_, _, _, _, _, _, _, _, rfl, fin _ (by rw [List.length_zipWith]; omega) fun x hx2 => ?_⟩
            obtain ⟨a, b', ha, hb', rfl⟩ := mem_zipWith hx2
            have q1 := b1 a ha
            have q2 := b2 b' hb'
            rw [e4]
            have hc : c - 3 = -3 ∨ c - 3 = -2 ∨ c - 3 = -1 ∨ c - 3 = 0 ∨ c - 3 = 1 ∨ c - 3 = 2 ∨ c - 3 = 3 := by omega
            rcases hc with h | h | h | h | h | h | h <;> rw [h] <;> omega
        · walk_at "gs"
          rw [ea]
          exact ⟨_, _, _, _, _, _, _, _, rfl, fx⟩
    · obtain ⟨rs, s4, s5, s6, s7, s8, s9, s10, rfl, hl, hr⟩ := hI
      walk_at "gs"
      rw [rngD_len] at hl hr
      refine hR rs hl fun r h => ⟨(hr r h).1, fun x hx => ?_⟩
      have h8 := (hr r h).2 x hx
      have hk : n.toNat = 0 ∨ n.toNat = 1 ∨ n.toNat = 2 ∨ n.toNat = 3 ∨ n.toNat = 4 ∨ n.toNat = 5 ∨ n.toNat = 6 ∨ n.toNat = 7 ∨ n.toNat = 8 := by omega
      rcases hk with h | h | h | h | h | h | h | h | h <;> rw [h] at h8 <;> omega

def sp_row_times : DSp := fun ds P => ∃ (xs : List Int) (rs : List (List Int)) (m : Nat), ds = [rowD xs, tabD rs] ∧ xs.length ≤ 1000 ∧ Bnd (2 ^ 62) xs ∧ 0 < rs.length ∧ rs.length ≤ 1000 ∧ m ≤ 1000 ∧ (∀ r, r ∈ rs → r.length = m) ∧ P (rowD (mulV xs rs m))
theorem ok_row_times (Z : Fc K mg)  : FnOk P w K mg base CX0 1 Z.a_row_times Z.fd_row_times P_row_times (spD b 2 sp_row_times) := by
  refine fn_D Z.F_row_times sc_row_times fun X outer cdv A s H E hX hr => ?_
  subst hX
  have nd := sc_row_times.nd
  refine ⟨_, (ss_one (s_ret (x_tupleOf (by rfl) Z.z_tuple (a_cons (x_l (l_lc rfl nd (vs := [2]) (i_zipS (by rfl) Z.z_zip (xv 1)) (blkOk_by (own := [("column", 2)]) (N := N_row_times) (sc := (defScope s_row_times)) (by decide +kernel)) (fun _ => (g_name (i := 2) nd rfl (by first | exact .inl rfl | exact .inr rfl))) (fun _ => ts_nil) (fun _ => (x_sum rfl (by rfl) Z.z_sum (a_cons (x_l (l_lc rfl nd (vs := [3, 4]) (i_zip (by rfl) Z.z_zip (a_cons (xv 0) (a_cons (xv 2) a_nil))) (blkOk_by (own := [("number", 3), ("factor", 4)]) (N := N_row_times) (sc := (relS (cSc [(".0", .local), ("column", .local), ("sum", .globalImplicit), ("zip", .globalImplicit), ("row", .free)]) (defScope s_row_times))) (by decide +kernel)) (fun _ => (g_tup' (m := 2) rfl (gs_cons (g_name (i := 3) nd rfl (by first | exact .inl rfl | exact .inr rfl)) (gs_cons (g_name (i := 4) nd rfl (by first | exact .inl rfl | exact .inr rfl)) gs_nil)))) (fun _ => ts_nil) (fun _ => (x_mul (xv 3) (xv 4))) (by simp))) a_nil))) (by simp))) a_nil)))), fun ds R hl hT => ?_⟩
  obtain ⟨xs, rs, m, rfl, hx, hb, h0, h1, hm, hr, hR⟩ := hT
  rw [show startD N_row_times [rowD xs, tabD rs] = [.val (rowD xs), .val (tabD rs), .un, .un, .un] from rfl]
  walk_at "gs"
  refine ⟨rs.map fun r => r.map Dt.int, m, .inl ?_, by simpa using h0, by simp; omega, ?_, ?_⟩
  · show Dt.tup (rs.map rowD) = _
    rw [List.map_map] <;> rfl
  · intro r hr'
    obtain ⟨r', h', rfl⟩ := List.mem_map.mp hr'
    rw [List.length_map]
    exact hr r' h'
  walk_at "gs"
  refine ⟨by rw [colsD_len]; omega, fun j acc => acc = (List.range j).map fun k => Dt.int (dot xs rs k), rfl, fun j d acc hj _ e => ?_, fun acc _ e => ?_⟩
  · obtain ⟨hj2, rfl⟩ := colsD_at hj
    rw [cols_int (fun r h => by rw [hr r h]; exact hj2)]
    walk_at "gs"
    refine ⟨by rw [zipD_len]; simp; omega, fun i a2 => a2 = ((List.zipWith (· * ·) xs (rs.map fun r => r.getD j 0)).take i).map Dt.int, rfl, fun i d2 a2 hi _ e2 => ?_, fun a2 _ e2 => ?_⟩
    · obtain ⟨a, c, ha, hc, rfl⟩ := zipD_ints hi
      walk_at "gs"
      refine ⟨Bnd.cmul (hb a (List.mem_of_getElem? ha)), ?_⟩
      rw [e2, List.take_add_one, List.getElem?_zipWith, ha, hc, List.map_append] <;> rfl
    · walk_at "gs"
      refine ⟨List.zipWith (· * ·) xs (rs.map fun r => r.getD j 0), ?_, ?_⟩
      · rw [e2, zipD_len, List.take_of_length_le (by rw [List.length_zipWith]; simp)]
      · walk_at "gs"
        rw [e, List.range_succ, List.map_append] <;> rfl
  · walk_at "gs"
    rw [e, colsD_len]
    have : rowD (mulV xs rs m) = Dt.tup ((List.range m).map fun k => Dt.int (dot xs rs k)) := by
      show Dt.tup _ = _
      unfold mulV
      rw [List.map_map] <;> rfl
    rw [← this]
    exact hR

def sp_table_times : DSp := fun ds P => ∃ (xs rs : List (List Int)) (m : Nat), ds = [tabD xs, tabD rs] ∧ xs.length ≤ 1000 ∧ (∀ x, x ∈ xs → x.length ≤ 1000 ∧ Bnd (2 ^ 62) x) ∧ 0 < rs.length ∧ rs.length ≤ 1000 ∧ m ≤ 1000 ∧ (∀ r, r ∈ rs → r.length = m) ∧ P (tabD (mulT xs rs m))
theorem ok_table_times (Z : Fc K mg) (G_row_times : FnOk P w K mg base CX0 1 Z.a_row_times Z.fd_row_times P_row_times (spD b 2 sp_row_times)) : FnOk P w K mg base CX0 2 Z.a_table_times Z.fd_table_times P_table_times (spD b 2 sp_table_times) := by
  refine fn_D Z.F_table_times sc_table_times fun X outer cdv A s H E hX hr => ?_
  subst hX
  have nd := sc_table_times.nd
  refine ⟨_, (ss_one (s_ret (x_tupleOf (by rfl) Z.z_tuple (a_cons (x_l (l_lc rfl nd (vs := [2]) (i_tup (xv 0)) (blkOk_by (own := [("row", 2)]) (N := N_table_times) (sc := (defScope s_table_times)) (by decide +kernel)) (fun _ => (g_name (i := 2) nd rfl (by first | exact .inl rfl | exact .inr rfl))) (fun _ => ts_nil) (fun _ => (x_call (CX := CX0) (G_row_times) (hr.mono (by decide)) (by rfl) Z.g_row_times Z.F_row_times.kp Z.b_row_times (a_cons (xv 2) (a_cons (xv 1) a_nil)))) (by simp))) a_nil)))), fun ds R hl hT => ?_⟩
  obtain ⟨xs, rs, m, rfl, hx, hx2, h0, h1, hm, hr, hR⟩ := hT
  rw [show startD N_table_times [tabD xs, tabD rs] = [.val (tabD xs), .val (tabD rs), .un] from rfl]
  walk_at "gs"
  refine ⟨by simp; omega, fun j acc => acc = ((mulT xs rs m).take j).map rowD, rfl, fun j d acc hj _ e => ?_, fun acc _ e => ?_⟩
  · rw [List.getElem?_map] at hj
    cases hx3 : xs[j]? with
    | none => rw [hx3] at hj; cases hj
    | some x =>
      rw [hx3] at hj
      obtain rfl := (Option.some.inj hj).symm
      walk_at "gs"
      refine ⟨x, rs, m, rfl, (hx2 x (List.mem_of_getElem? hx3)).1, (hx2 x (List.mem_of_getElem? hx3)).2, h0, h1, hm, hr, ?_⟩
      rw [e, List.take_add_one, List.map_append]
      unfold mulT
      rw [List.getElem?_map, hx3] <;> rfl
  · walk_at "gs"
    rw [e, List.take_of_length_le (by unfold mulT; simp)]
    exact hR

@[reducible] def sp_identity : DSp := fun ds P => match ds with
  | [.int n] => 0 ≤ n ∧ n ≤ 1000 ∧ P (tabD (idL n.toNat))
  | _ => False
theorem ok_identity (Z : Fc K mg)  : FnOk P w K mg base CX0 1 Z.a_identity Z.fd_identity P_identity (spD b 1 sp_identity) := by
  refine fn_D Z.F_identity sc_identity fun X outer cdv A s H E hX hr => ?_
  subst hX
  have nd := sc_identity.nd
  refine ⟨_, (ss_one (s_ret (x_tupleOf (by rfl) Z.z_tuple (a_cons (x_l (l_lc rfl nd (vs := [1]) (i_rng1 (by rfl) Z.z_range (a_cons (xv 0) a_nil)) (blkOk_by (own := [("index", 1)]) (N := N_identity) (sc := (defScope s_identity)) (by decide +kernel)) (fun _ => (g_name (i := 1) nd rfl (by first | exact .inl rfl | exact .inr rfl))) (fun _ => ts_nil) (fun _ => (x_tupleOf (by rfl) Z.z_tuple (a_cons (x_l (l_lc rfl nd (vs := [2]) (i_rng1 (by rfl) Z.z_range (a_cons (xv 0) a_nil)) (blkOk_by (own := [("at", 2)]) (N := N_identity) (sc := (relS (cSc [(".0", .local), ("index", .cell), ("tuple", .globalImplicit), ("range", .globalImplicit), ("width", .free)]) (defScope s_identity))) (by decide +kernel)) (fun _ => (g_name (i := 2) nd rfl (by first | exact .inl rfl | exact .inr rfl))) (fun _ => ts_nil) (fun _ => (x_if (t_eq hr.units (xv 2) (xv 1)) x_int x_int)) (by simp))) a_nil))) (by simp))) a_nil)))), fun ds R hl hT => ?_⟩
  match ds, hT with
  | [.int n], ⟨h0, h1, hR⟩ =>
    rw [show startD N_identity [Dt.int n] = [.val (.int n), .un, .un] from rfl]
    walk_at "gs"
    refine ⟨by rw [rngD_len]; omega, fun i acc => acc = (List.range i).map fun k => rowD (idRow n.toNat k), rfl, fun i d acc hi _ e => ?_, fun acc _ e => ?_⟩
    · obtain ⟨hi2, rfl⟩ := rngD_at hi
      walk_at "gs"
      refine ⟨by rw [rngD_len]; omega, fun j a2 => a2 = (List.range j).map fun k => Dt.int (if k = i then 1 else 0), rfl, fun j d2 a2 hj _ e2 => ?_, fun a2 _ e2 => ?_⟩
      · obtain ⟨hj2, rfl⟩ := rngD_at hj
        walk_at "gs"
        by_cases h : j = i
        · rw [show decide ((0 : Int) + (j : Int) = 0 + (i : Int)) = true from decide_eq_true (by omega)]
          walk_at "gs"
          rw [List.range_succ, List.map_append, e2, show [j].map (fun k => Dt.int (if k = i then 1 else 0)) = [Dt.int 1] from by simp [h]]
        · rw [show decide ((0 : Int) + (j : Int) = 0 + (i : Int)) = false from decide_eq_false (by omega)]
          walk_at "gs"
          rw [List.range_succ, List.map_append, e2, show [j].map (fun k => Dt.int (if k = i then 1 else 0)) = [Dt.int 0] from by simp [h]]
      · walk_at "gs"
        rw [e, e2, rngD_len, List.range_succ, List.map_append]
        show _ ++ [Dt.tup _] = _ ++ [Dt.tup ((idRow n.toNat i).map Dt.int)]
        unfold idRow
        rw [List.map_map] <;> rfl
    · walk_at "gs"
      rw [e, rngD_len]
      have : tabD (idL n.toNat) = Dt.tup ((List.range n.toNat).map fun k => rowD (idRow n.toNat k)) := by
        show Dt.tup _ = _
        unfold idL
        rw [List.map_map] <;> rfl
      rw [← this]
      exact hR

/-- the law -/
def spLaw (K : PySem.W.Frag) : Sp := fun vs H Q _ => ∃ (a : Addr) (ns : List Int), vs = [.ref a] ∧ SqL K H a (ns.map V.int) ∧ ns.length ≤ 63 ∧ ∀ H', Q (.bl true) H'
theorem ok_law (Z : Fc K mg) {f : Addr} {fd : FuncData} (F : Fun K "law" "law" s_law f fd) : FnOk P w K mg base CX0 9 f fd ["_law_script"] (spLaw K) := by
    have G_bag : FnOk P w K mg base CX0 1 Z.a_bag Z.fd_bag P_bag (spBag K) := ok_bag Z
    have G_times : ∀ a, FnOk P w K mg base CX0 1 Z.a_times Z.fd_times P_times (spD (some a) 2 sp_times) := fun a => ok_times Z 
    have G_take : ∀ a, FnOk P w K mg base CX0 1 Z.a_take Z.fd_take P_take (spD (some a) 2 takeT) := fun a => ok_take Z a
    have G_of : ∀ a, FnOk P w K mg base CX0 2 Z.a_of Z.fd_of P_of (spD (some a) 2 ofT) := fun a => ok_of Z (G_take a)
    have G_numbers : ∀ a, FnOk P w K mg base CX0 3 Z.a_numbers Z.fd_numbers P_numbers (spD (some a) 2 sp_numbers) := fun a => ok_numbers Z (G_of a) (G_take a)
    have G_same : ∀ a, FnOk P w K mg base CX0 8 Z.a_same Z.fd_same P_same (spD (some a) 2 (sameT 7)) := fun a => ok_same Z 7
    have G_lines : ∀ a, FnOk P w K mg base CX0 4 Z.a_lines Z.fd_lines P_lines (spD (some a) 3 sp_lines) := fun a => ok_lines Z (G_numbers a) (G_take a) (G_of a)
    have G_row_times : ∀ a, FnOk P w K mg base CX0 1 Z.a_row_times Z.fd_row_times P_row_times (spD (some a) 2 sp_row_times) := fun a => ok_row_times Z 
    have G_table_times : ∀ a, FnOk P w K mg base CX0 2 Z.a_table_times Z.fd_table_times P_table_times (spD (some a) 2 sp_table_times) := fun a => ok_table_times Z (G_row_times a)
    have G_identity : ∀ a, FnOk P w K mg base CX0 1 Z.a_identity Z.fd_identity P_identity (spD (some a) 1 sp_identity) := fun a => ok_identity Z 
    refine F.ok sc_law (fun vs H Q E h => ?_) (fun cdv A outer s H vs Q E hr h => ?_)
    · obtain ⟨a, ns, rfl, _⟩ := h
      rfl
    obtain ⟨a, ns, rfl, hS, hlen, q⟩ := h
    have nd := sc_law.nd
    obtain ⟨te, t1, t2⟩ := law_rest (X := (cxOf CX0 P w K mg base N_law "law" (defScope s_law) f cdv A outer s H E).nox) (st := (defBody s_law).tail) (fun a => (ss_cons (s_for rfl (i_rng1 (by rfl) Z.z_range (a_cons x_int a_nil)) (g_name (i := 2) nd rfl (by first | exact .inl rfl | exact .inr rfl)) (ss_cons (s_set (i := 3) nd rfl (.inr rfl) (x_addI x_int (x_call (CX := CX0) (G_take a) (hr.mono (by decide)) (by rfl) Z.g_take Z.F_take.kp Z.b_take (a_cons (xv 1) (a_cons x_int a_nil)))))
      (ss_cons (s_asg (x_tup (a_cons (x_call (CX := CX0) (G_numbers a) (hr.mono (by decide)) (by rfl) Z.g_numbers Z.F_numbers.kp Z.b_numbers (a_cons (xv 1) (a_cons (xv 3) a_nil))) (a_cons (x_tupleOf (by rfl) Z.z_tuple (a_cons (x_call (CX := CX0) (G_lines a) (hr.mono (by decide)) (by rfl) Z.g_lines Z.F_lines.kp Z.b_lines (a_cons (xv 1) (a_cons (xv 3) (a_cons (xv 3) a_nil)))) a_nil)) (a_cons (x_tupleOf (by rfl) Z.z_tuple (a_cons (x_call (CX := CX0) (G_lines a) (hr.mono (by decide)) (by rfl) Z.g_lines Z.F_lines.kp Z.b_lines (a_cons (xv 1) (a_cons (xv 3) (a_cons (xv 3) a_nil)))) a_nil)) a_nil)))) (g_tup' (m := 3) rfl (gs_cons (g_name (i := 4) nd rfl (by first | exact .inl rfl | exact .inr rfl)) (gs_cons (g_name (i := 5) nd rfl (by first | exact .inl rfl | exact .inr rfl)) (gs_cons (g_name (i := 6) nd rfl (by first | exact .inl rfl | exact .inr rfl)) gs_nil)))))
      (ss_cons (s_set (i := 7) nd rfl (.inl rfl) (x_call (CX := CX0) (G_times a) (hr.mono (by decide)) (by rfl) Z.g_times Z.F_times.kp Z.b_times (a_cons (xv 4) (a_cons (xv 5) a_nil))))
      (ss_cons (s_if (t_not (t_truth (x_call (CX := CX0) (G_same a) (hr.mono (by decide)) (by rfl) Z.g_same Z.F_same.kp Z.b_same (a_cons (x_l (l_lst (a_cons (x_call (CX := CX0) (G_row_times a) (hr.mono (by decide)) (by rfl) Z.g_row_times Z.F_row_times.kp Z.b_row_times (a_cons (xv 4) (a_cons (xv 5) a_nil))) (a_cons (x_callK0 (G_row_times a) (hr.mono (by decide)) (by rfl) Z.g_row_times Z.F_row_times.kp (Z.k_row_times_table_row) (fun r r2 => rep_sel _ _ _ r r2) (k_cons (xv 5) (k_cons (xv 4) k_nil))) a_nil)))) (a_cons (x_l (l_lst (a_cons (xv 7) (a_cons (xv 7) a_nil)))) a_nil))))) (ss_one (s_ret x_bl)) ss_nil)
      (ss_cons (s_set (i := 8) nd rfl (.inl rfl) (x_tupleOf (by rfl) Z.z_tuple (a_cons (x_l (l_lc rfl nd (vs := [10]) (i_tup (xv 5)) (blkOk_by (own := [("_law_line", 10)]) (N := N_law) (sc := (defScope s_law)) (by decide +kernel)) (fun _ => (g_name (i := 10) nd rfl (by first | exact .inl rfl | exact .inr rfl))) (fun _ => ts_nil) (fun _ => (x_call (CX := CX0) (G_times a) (hr.mono (by decide)) (by rfl) Z.g_times Z.F_times.kp Z.b_times (a_cons (xv 10) (a_cons (xv 6) a_nil)))) (by simp))) a_nil)))
      (ss_cons (s_if (t_not (t_truth (x_call (CX := CX0) (G_same a) (hr.mono (by decide)) (by rfl) Z.g_same Z.F_same.kp Z.b_same (a_cons (x_l (l_lst (a_cons (x_call (CX := CX0) (G_table_times a) (hr.mono (by decide)) (by rfl) Z.g_table_times Z.F_table_times.kp Z.b_table_times (a_cons (xv 5) (a_cons (xv 6) a_nil))) (a_cons (x_callK0 (G_table_times a) (hr.mono (by decide)) (by rfl) Z.g_table_times Z.F_table_times.kp (Z.k_table_times_other_one) (fun r r2 => rep_sel _ _ _ r r2) (k_cons (xv 6) (k_cons (xv 5) k_nil))) a_nil)))) (a_cons (x_l (l_lst (a_cons (xv 8) (a_cons (xv 8) a_nil)))) a_nil))))) (ss_one (s_ret x_bl)) ss_nil)
      (ss_cons (s_set (i := 9) nd rfl (.inl rfl) (x_tupleOf (by rfl) Z.z_tuple (a_cons (x_l (l_lc rfl nd (vs := [11]) (i_rng1 (by rfl) Z.z_range (a_cons (xv 3) a_nil)) (blkOk_by (own := [("_law_k", 11)]) (N := N_law) (sc := (defScope s_law)) (by decide +kernel)) (fun _ => (g_name (i := 11) nd rfl (by first | exact .inl rfl | exact .inr rfl))) (fun _ => ts_nil) (fun _ => (x_tupleOf (by rfl) Z.z_tuple (a_cons (x_l (l_lc rfl nd (vs := [12]) (i_rng1 (by rfl) Z.z_range (a_cons (xv 3) a_nil)) (blkOk_by (own := [("_law_j", 12)]) (N := N_law) (sc := (relS (cSc [(".0", .local), ("_law_k", .cell), ("tuple", .globalImplicit), ("range", .globalImplicit), ("_law_many", .free)]) (defScope s_law))) (by decide +kernel)) (fun _ => (g_name (i := 12) nd rfl (by first | exact .inl rfl | exact .inr rfl))) (fun _ => ts_nil) (fun _ => (x_intOf (by rfl) Z.z_int (a_cons (x_eq hr.units (xv 12) (xv 11)) a_nil))) (by simp))) a_nil))) (by simp))) a_nil)))
      (ss_one (s_if (t_not (t_truth (x_call (CX := CX0) (G_same a) (hr.mono (by decide)) (by rfl) Z.g_same Z.F_same.kp Z.b_same (a_cons (x_l (l_lst (a_cons (x_call (CX := CX0) (G_identity a) (hr.mono (by decide)) (by rfl) Z.g_identity Z.F_identity.kp Z.b_identity (a_cons (xv 3) a_nil)) (a_cons (x_callK0 (G_identity a) (hr.mono (by decide)) (by rfl) Z.g_identity Z.F_identity.kp (Z.k_identity_width) (fun r r2 => rep_sel _ _ _ r r2) (k_cons (xv 3) k_nil)) (a_cons (x_call (CX := CX0) (G_row_times a) (hr.mono (by decide)) (by rfl) Z.g_row_times Z.F_row_times.kp Z.b_row_times (a_cons (xv 4) (a_cons (x_call (CX := CX0) (G_identity a) (hr.mono (by decide)) (by rfl) Z.g_identity Z.F_identity.kp Z.b_identity (a_cons (xv 3) a_nil)) a_nil))) a_nil))))) (a_cons (x_l (l_lst (a_cons (xv 9) (a_cons (xv 9) (a_cons (xv 4) a_nil))))) a_nil))))) (ss_one (s_ret x_bl)) ss_nil))))))))))
      (ss_one (s_ret x_bl))))
    refine ⟨_, pss_cons (ps_set (i := 1) nd rfl (.inl rfl) (pe_call G_bag (hr.mono (by decide)) (by rfl) Z.g_bag Z.F_bag.kp Z.b_bag .nil pass0 (pa_cons (pv 0) pa_nil))) t1, ?_⟩
    refine ⟨.ref a, rfl, a, ns, rfl, hS, hlen, fun p c cs m H' hcs m0 m1 hc hp => ?_⟩
    refine law_go (γ := [.un, .val .bag, .un, .un, .un, .un, .un, .un, .un, .un, .un, .un, .un]) t2 hcs m0 m1 hc hp (N := N_law) (i := 1) rfl rfl q ?_
    walk_at "gs"
    refine ⟨fun _ γ => ∃ s2 s3 s4 s5 s6 s7 s8 s9 s10 s11 s12 : Sl, γ = [.un, .val .bag, s2, s3, s4, s5, s6, s7, s8, s9, s10, s11, s12], ⟨_, _, _, _, _, _, _, _, _, _, _, rfl⟩, fun i d γ' hi hI => ?_, fun γ' hI => ?_⟩
    · obtain ⟨s2, s3, s4, s5, s6, s7, s8, s9, s10, s11, s12, rfl⟩ := hI
      walk_at "gs"
      intro r r0 r1
      walk_at "gs"
      intro xs hx hb
      walk_at "gs"
      intro rs hl hr
      walk_at "gs"
      intro ts hl2 hr2
      walk_at "gs"
      have hN : (1 + r).toNat ≤ 8 := by omega
      have hN0 : 0 < (1 + r).toNat := by omega
      generalize hNN : (1 + r).toNat = N at *
      have hb62 : Bnd (2 ^ 62) xs := fun x h => by
        have := hb x h
        omega
      have rw1 : ∀ P : Dt → Prop, P (rowD (mulV xs rs N)) → sp_row_times [rowD xs, tabD rs] P := fun P p => ⟨xs, rs, N, rfl, by omega, hb62, by omega, by omega, by omega, fun r h => (hr r h).1, p⟩
      refine ⟨xs, rs, N, rfl, by omega, hb62, by omega, by omega, by omega, fun r h => (hr r h).1, ?_⟩
      walk_at "gs"
      refine rw1 _ ?_
      walk_at "gs"
      refine rw1 _ ?_
      walk_at "gs"
      clear t1 t2
      have hlm : (rs.map rowD).length = N := by rw [List.length_map]; exact hl
      have k1 := two_okS (row_okS (xs := mulV xs rs N) (by rw [mulV_len]; omega))
      refine ⟨k1.1, Nat.le_trans k1.2 (by decide), ?_⟩
      walk_at "gs"
      refine ⟨fun i acc => acc = ((mulT rs ts N).take i).map rowD, rfl, fun j d acc hj _ e => ?_, fun acc _ e => ?_⟩
      · rw [List.getElem?_map] at hj
        cases hx3 : rs[j]? with
        | none => rw [hx3] at hj; cases hj
        | some x =>
          rw [hx3] at hj
          obtain rfl := (Option.some.inj hj).symm
          have hxm := hr x (List.mem_of_getElem? hx3)
          walk_at "gs"
          refine ⟨x, ts, N, rfl, by omega, hxm.2, by omega, by omega, by omega, fun r h => (hr2 r h).1, ?_⟩
          rw [e, List.take_add_one, List.map_append]
          unfold mulT
          rw [List.getElem?_map, hx3] <;> rfl
      · have hml : (mulT rs ts N).length = N := by unfold mulT; rw [List.length_map]; exact hl
        rw [hlm, List.take_of_length_le (by omega)] at e
        subst e
        have tt1 : ∀ P : Dt → Prop, P (tabD (mulT rs ts N)) → sp_table_times [tabD rs, tabD ts] P := fun P p => ⟨rs, ts, N, rfl, by omega, fun x h => ⟨by have := (hr x h).1; omega, (hr x h).2⟩, by omega, by omega, by omega, fun r h => (hr2 r h).1, p⟩
        walk_at "gs"
        refine tt1 _ ?_
        walk_at "gs"
        refine tt1 _ ?_
        walk_at "gs"
        have k2 := two_okS (tab_okS (rs := mulT rs ts N) (by omega) (fun r h => by
          unfold mulT at h
          obtain ⟨x, _, rfl⟩ := List.mem_map.mp h
          rw [mulV_len]; omega))
        refine ⟨k2.1, Nat.le_trans k2.2 (by decide), ?_⟩
        walk_at "gs"
        rw [hNN]
        refine ⟨by rw [rngD_len]; omega, fun i acc => acc = (List.range i).map fun k => rowD (idRow N k), rfl, fun i d acc hi _ e => ?_, fun acc _ e => ?_⟩
        · obtain ⟨hi2, rfl⟩ := rngD_at hi
          walk_at "gs"
          rw [hNN]
          refine ⟨by rw [rngD_len]; omega, fun j a2 => a2 = (List.range j).map fun k => Dt.int (if k = i then 1 else 0), rfl, fun j d2 a2 hj _ e2 => ?_, fun a2 _ e2 => ?_⟩
          · obtain ⟨hj2, rfl⟩ := rngD_at hj
            walk_at "gs"
            by_cases h : j = i
            · rw [show decide ((0 : Int) + (j : Int) = 0 + (i : Int)) = true from decide_eq_true (by omega)]
              walk_at "gs"
              rw [List.range_succ, List.map_append, e2, show [j].map (fun k => Dt.int (if k = i then 1 else 0)) = [Dt.int 1] from by simp [h]] <;> rfl
            · rw [show decide ((0 : Int) + (j : Int) = 0 + (i : Int)) = false from decide_eq_false (by omega)]
              walk_at "gs"
              rw [List.range_succ, List.map_append, e2, show [j].map (fun k => Dt.int (if k = i then 1 else 0)) = [Dt.int 0] from by simp [h]] <;> rfl
          · walk_at "gs"
            rw [e, e2, rngD_len, List.range_succ, List.map_append]
            show _ ++ [Dt.tup _] = _ ++ [Dt.tup ((idRow N i).map Dt.int)]
            unfold idRow
            rw [List.map_map] <;> rfl
        · have e3 : acc = (idL N).map rowD := by
            rw [e, rngD_len]
            unfold idL
            rw [List.map_map] <;> rfl
          subst e3
          walk_at "gs"
          rw [hNN]
          refine ⟨xs, idL N, N, rfl, by omega, hb62, by rw [idL_len]; omega, by rw [idL_len]; omega, by omega, fun r h => idL_mem h, ?_⟩
          rw [mulV_id hx]
          walk_at "gs"
          have kx := row_okS (xs := xs) (by omega)
          have k3 := three_okS (n := 3) (tab_okS (rs := idL N) (by rw [idL_len]; omega) (fun r h => by rw [idL_mem h]; omega)) ⟨kx.1, Nat.le_trans kx.2 (by decide)⟩
          refine ⟨k3.1, Nat.le_trans k3.2 (by decide), ?_⟩
          walk_at "gs"
          exact ⟨_, _, _, _, _, _, _, _, _, _, _, rfl⟩
    · obtain ⟨s2, s3, s4, s5, s6, s7, s8, s9, s10, s11, s12, rfl⟩ := hI
      walk_at "gs"

end
/-! what the top has written -/
theorem all_mk {l : PySem.W.OpenLaw} {w : World} {K : PySem.W.Frag} {h : Heap} {mg : Str → Option Value} {fa f0 f1 f2 f3 f4 f5 f6 f7 f8 f9 f10 : Addr} (X : K.In h) (G : h.Ns mainGlobals mg) (hfa : mg "law" = some (.ref fa))
    {od0 od1 od2 od3 od4 od5 od6 od7 od8 od9 od10 an0 an1 an2 an3 an4 an5 an6 an7 an8 an9 an10 : Option Addr} {sl0 sl1 sl2 sl3 sl4 sl5 sl6 sl7 sl8 sl9 sl10 : Array (Option Value)} {oc0 oc1 oc2 oc3 oc4 oc5 oc6 oc7 oc8 oc9 oc10 kV0 kV1 kV2 kV3 kV4 kV5 kV6 kV7 kV8 kV9 kV10 dc0 dc1 dc2 dc3 dc4 dc5 dc6 dc7 dc8 dc9 dc10 pm0 pm1 pm2 pm3 pm4 pm5 pm6 pm7 pm8 pm9 pm10 cd0 cd1 cd2 cd3 cd4 cd5 cd6 cd7 cd8 cd9 cd10 ct0 ct1 ct2 ct3 ct4 ct5 ct6 ct7 ct8 ct9 ct10 : Value}
    (a0 : PySem.W.nsIn K mainGlobals "_law_bag" = some (some (.ref f0)))
    (l0 : K.lookup f0 = some ⟨oc0, od0, .func (PySem.W.fnOf "_law_bag" "_law_bag" (defArgs s_bag) (defBody s_bag) (defScope s_bag) .none kV0 dc0 pm0 an0 cd0 ct0), sl0⟩)
    (c0 : PySem.W.codeIn K cd0 "_law_bag" = true) (k0 : PySem.W.keepIn K (.ref f0) = true)
    (a1 : PySem.W.nsIn K mainGlobals "_law_times" = some (some (.ref f1)))
    (l1 : K.lookup f1 = some ⟨oc1, od1, .func (PySem.W.fnOf "_law_times" "_law_times" (defArgs s_times) (defBody s_times) (defScope s_times) .none kV1 dc1 pm1 an1 cd1 ct1), sl1⟩)
    (c1 : PySem.W.codeIn K cd1 "_law_times" = true) (k1 : PySem.W.keepIn K (.ref f1) = true)
    (a2 : PySem.W.nsIn K mainGlobals "_law_take" = some (some (.ref f2)))
    (l2 : K.lookup f2 = some ⟨oc2, od2, .func (PySem.W.fnOf "_law_take" "_law_take" (defArgs s_take) (defBody s_take) (defScope s_take) .none kV2 dc2 pm2 an2 cd2 ct2), sl2⟩)
    (c2 : PySem.W.codeIn K cd2 "_law_take" = true) (k2 : PySem.W.keepIn K (.ref f2) = true)
    (a3 : PySem.W.nsIn K mainGlobals "_law_of" = some (some (.ref f3)))
    (l3 : K.lookup f3 = some ⟨oc3, od3, .func (PySem.W.fnOf "_law_of" "_law_of" (defArgs s_of) (defBody s_of) (defScope s_of) .none kV3 dc3 pm3 an3 cd3 ct3), sl3⟩)
    (c3 : PySem.W.codeIn K cd3 "_law_of" = true) (k3 : PySem.W.keepIn K (.ref f3) = true)
    (a4 : PySem.W.nsIn K mainGlobals "_law_numbers" = some (some (.ref f4)))
    (l4 : K.lookup f4 = some ⟨oc4, od4, .func (PySem.W.fnOf "_law_numbers" "_law_numbers" (defArgs s_numbers) (defBody s_numbers) (defScope s_numbers) .none kV4 dc4 pm4 an4 cd4 ct4), sl4⟩)
    (c4 : PySem.W.codeIn K cd4 "_law_numbers" = true) (k4 : PySem.W.keepIn K (.ref f4) = true)
    (a5 : PySem.W.nsIn K mainGlobals "_law_same" = some (some (.ref f5)))
    (l5 : K.lookup f5 = some ⟨oc5, od5, .func (PySem.W.fnOf "_law_same" "_law_same" (defArgs s_same) (defBody s_same) (defScope s_same) .none kV5 dc5 pm5 an5 cd5 ct5), sl5⟩)
    (c5 : PySem.W.codeIn K cd5 "_law_same" = true) (k5 : PySem.W.keepIn K (.ref f5) = true)
    (a6 : PySem.W.nsIn K mainGlobals "_law_lines" = some (some (.ref f6)))
    (l6 : K.lookup f6 = some ⟨oc6, od6, .func (PySem.W.fnOf "_law_lines" "_law_lines" (defArgs s_lines) (defBody s_lines) (defScope s_lines) .none kV6 dc6 pm6 an6 cd6 ct6), sl6⟩)
    (c6 : PySem.W.codeIn K cd6 "_law_lines" = true) (k6 : PySem.W.keepIn K (.ref f6) = true)
    (a7 : PySem.W.nsIn K mainGlobals "row_times" = some (some (.ref f7)))
    (l7 : K.lookup f7 = some ⟨oc7, od7, .func (PySem.W.fnOf "row_times" "row_times" (defArgs s_row_times) (defBody s_row_times) (defScope s_row_times) .none kV7 dc7 pm7 an7 cd7 ct7), sl7⟩)
    (c7 : PySem.W.codeIn K cd7 "row_times" = true) (k7 : PySem.W.keepIn K (.ref f7) = true)
    (a8 : PySem.W.nsIn K mainGlobals "table_times" = some (some (.ref f8)))
    (l8 : K.lookup f8 = some ⟨oc8, od8, .func (PySem.W.fnOf "table_times" "table_times" (defArgs s_table_times) (defBody s_table_times) (defScope s_table_times) .none kV8 dc8 pm8 an8 cd8 ct8), sl8⟩)
    (c8 : PySem.W.codeIn K cd8 "table_times" = true) (k8 : PySem.W.keepIn K (.ref f8) = true)
    (a9 : PySem.W.nsIn K mainGlobals "identity" = some (some (.ref f9)))
    (l9 : K.lookup f9 = some ⟨oc9, od9, .func (PySem.W.fnOf "identity" "identity" (defArgs s_identity) (defBody s_identity) (defScope s_identity) .none kV9 dc9 pm9 an9 cd9 ct9), sl9⟩)
    (c9 : PySem.W.codeIn K cd9 "identity" = true) (k9 : PySem.W.keepIn K (.ref f9) = true)
    (a10 : PySem.W.nsIn K mainGlobals "law" = some (some (.ref f10)))
    (l10 : K.lookup f10 = some ⟨oc10, od10, .func (PySem.W.fnOf "law" "law" (defArgs s_law) (defBody s_law) (defScope s_law) .none kV10 dc10 pm10 an10 cd10 ct10), sl10⟩)
    (c10 : PySem.W.codeIn K cd10 "law" = true) (k10 : PySem.W.keepIn K (.ref f10) = true)
    (z0 : PySem.W.nsIn K mainGlobals "all" = some none)
    (z1 : PySem.W.nsIn K mainGlobals "bool" = some none)
    (z2 : PySem.W.nsIn K mainGlobals "int" = some none)
    (z3 : PySem.W.nsIn K mainGlobals "isinstance" = some none)
    (z4 : PySem.W.nsIn K mainGlobals "len" = some none)
    (z5 : PySem.W.nsIn K mainGlobals "list" = some none)
    (z6 : PySem.W.nsIn K mainGlobals "range" = some none)
    (z7 : PySem.W.nsIn K mainGlobals "str" = some none)
    (z8 : PySem.W.nsIn K mainGlobals "sum" = some none)
    (z9 : PySem.W.nsIn K mainGlobals "tuple" = some none)
    (z10 : PySem.W.nsIn K mainGlobals "zip" = some none)
    : ∃ fd : FuncData, (∀ (s : Shared) (v : Value), BindsTo s fd ⟨[v], []⟩ [("_law_script", v)]) ∧ ∀ base : Heap, K.In base → base.Ns mainGlobals mg → FnOk l.prog w K mg base CX0 9 fa fd ["_law_script"] (spLaw K) := by
  have e := hfa.symm.trans (PySem.W.mg_of X G a10)
  cases e
  let Z : Fc K mg := {
    z_all := PySem.W.mg_none_of X G z0,
    z_bool := PySem.W.mg_none_of X G z1,
    z_int := PySem.W.mg_none_of X G z2,
    z_isinstance := PySem.W.mg_none_of X G z3,
    z_len := PySem.W.mg_none_of X G z4,
    z_list := PySem.W.mg_none_of X G z5,
    z_range := PySem.W.mg_none_of X G z6,
    z_str := PySem.W.mg_none_of X G z7,
    z_sum := PySem.W.mg_none_of X G z8,
    z_tuple := PySem.W.mg_none_of X G z9,
    z_zip := PySem.W.mg_none_of X G z10,
    a_bag := f0,
    fd_bag := _,
    F_bag := fun_mk (st := s_bag) l0 c0 k0,
    g_bag := PySem.W.mg_of X G a0,
    b_bag := (fun_mk (st := s_bag) l0 c0 k0).binds (ps := P_bag) fun _ _ _ _ _ _ us hl => match us, hl with | [_], _ => rfl,
    a_times := f1,
    fd_times := _,
    F_times := fun_mk (st := s_times) l1 c1 k1,
    g_times := PySem.W.mg_of X G a1,
    b_times := (fun_mk (st := s_times) l1 c1 k1).binds (ps := P_times) fun _ _ _ _ _ _ us hl => match us, hl with | [_, _], _ => rfl,
    a_take := f2,
    fd_take := _,
    F_take := fun_mk (st := s_take) l2 c2 k2,
    g_take := PySem.W.mg_of X G a2,
    b_take := (fun_mk (st := s_take) l2 c2 k2).binds (ps := P_take) fun _ _ _ _ _ _ us hl => match us, hl with | [_, _], _ => rfl,
    a_of := f3,
    fd_of := _,
    F_of := fun_mk (st := s_of) l3 c3 k3,
    g_of := PySem.W.mg_of X G a3,
    b_of := (fun_mk (st := s_of) l3 c3 k3).binds (ps := P_of) fun _ _ _ _ _ _ us hl => match us, hl with | [_, _], _ => rfl,
    a_numbers := f4,
    fd_numbers := _,
    F_numbers := fun_mk (st := s_numbers) l4 c4 k4,
    g_numbers := PySem.W.mg_of X G a4,
    b_numbers := (fun_mk (st := s_numbers) l4 c4 k4).binds (ps := P_numbers) fun _ _ _ _ _ _ us hl => match us, hl with | [_, _], _ => rfl,
    a_same := f5,
    fd_same := _,
    F_same := fun_mk (st := s_same) l5 c5 k5,
    g_same := PySem.W.mg_of X G a5,
    b_same := (fun_mk (st := s_same) l5 c5 k5).binds (ps := P_same) fun _ _ _ _ _ _ us hl => match us, hl with | [_, _], _ => rfl,
    a_lines := f6,
    fd_lines := _,
    F_lines := fun_mk (st := s_lines) l6 c6 k6,
    g_lines := PySem.W.mg_of X G a6,
    b_lines := (fun_mk (st := s_lines) l6 c6 k6).binds (ps := P_lines) fun _ _ _ _ _ _ us hl => match us, hl with | [_, _, _], _ => rfl,
    a_row_times := f7,
    fd_row_times := _,
    F_row_times := fun_mk (st := s_row_times) l7 c7 k7,
    g_row_times := PySem.W.mg_of X G a7,
    b_row_times := (fun_mk (st := s_row_times) l7 c7 k7).binds (ps := P_row_times) fun _ _ _ _ _ _ us hl => match us, hl with | [_, _], _ => rfl,
    a_table_times := f8,
    fd_table_times := _,
    F_table_times := fun_mk (st := s_table_times) l8 c8 k8,
    g_table_times := PySem.W.mg_of X G a8,
    b_table_times := (fun_mk (st := s_table_times) l8 c8 k8).binds (ps := P_table_times) fun _ _ _ _ _ _ us hl => match us, hl with | [_, _], _ => rfl,
    a_identity := f9,
    fd_identity := _,
    F_identity := fun_mk (st := s_identity) l9 c9 k9,
    g_identity := PySem.W.mg_of X G a9,
    b_identity := (fun_mk (st := s_identity) l9 c9 k9).binds (ps := P_identity) fun _ _ _ _ _ _ us hl => match us, hl with | [_], _ => rfl,
    k_row_times_table_row := kb_mk (fun_mk (st := s_row_times) l7 c7 k7) 0 2 [1, 0] (by decide) fun _ _ _ _ _ _ us ws h1 h2 => match us, ws, h1, h2 with | [], [_, _], _, _ => rfl,
    k_table_times_other_one := kb_mk (fun_mk (st := s_table_times) l8 c8 k8) 0 2 [1, 0] (by decide) fun _ _ _ _ _ _ us ws h1 h2 => match us, ws, h1, h2 with | [], [_, _], _, _ => rfl,
    k_identity_width := kb_mk (fun_mk (st := s_identity) l9 c9 k9) 0 1 [0] (by decide) fun _ _ _ _ _ _ us ws h1 h2 => match us, ws, h1, h2 with | [], [_], _, _ => rfl }
  exact ⟨_, fun s v => .of_eq rfl, fun base _ _ => ok_law Z (fun_mk (st := s_law) l10 c10 k10)⟩
end Pf
open PySem PySem.W PyProof.Rows
set_option maxRecDepth 100000 in
set_option maxHeartbeats 0 in
theorem PySem.Challenge.cw_twinbegun_k12_products_of_tables_holds : PySem.Challenge.rw_twinbegun_k12_products_of_tables.Holds := by
  w_on; o_law; k_head; (case hw => w_witness2)
  k_fill
  refine L2.walk_of (l := PySem.Challenge.rw_twinbegun_k12_products_of_tables) (n := 63) (k := 9) (x := "_law_script") (CX := fun _ => L2.CX0) (sp := fun w => Pf.spLaw _) rfl (by decide) rfl ⟨rfl, by decide, by decide⟩ (fun w h Y => PySem.W.kIn_of Y) ?F (fun _ _ a ns hl _ hS => ⟨a, ns, rfl, hS, hl, fun _ => rfl⟩) (fun _ _ _ _ _ h => h)
  case F =>
    intro w mg fa h KX G hmg
    refine' Pf.all_mk KX G hmg ?a0 ?l0 ?c0 ?k0 ?a1 ?l1 ?c1 ?k1 ?a2 ?l2 ?c2 ?k2 ?a3 ?l3 ?c3 ?k3 ?a4 ?l4 ?c4 ?k4 ?a5 ?l5 ?c5 ?k5 ?a6 ?l6 ?c6 ?k6 ?a7 ?l7 ?c7 ?k7 ?a8 ?l8 ?c8 ?k8 ?a9 ?l9 ?c9 ?k9 ?a10 ?l10 ?c10 ?k10 ?z0 ?z1 ?z2 ?z3 ?z4 ?z5 ?z6 ?z7 ?z8 ?z9 ?z10
    (case a0 => k_is); (case l0 => k_is); (case c0 => k_is); (case k0 => k_is); (case a1 => k_is); (case l1 => k_is); (case c1 => k_is); (case k1 => k_is); (case a2 => k_is); (case l2 => k_is); (case c2 => k_is); (case k2 => k_is); (case a3 => k_is); (case l3 => k_is); (case c3 => k_is); (case k3 => k_is); (case a4 => k_is); (case l4 => k_is); (case c4 => k_is); (case k4 => k_is); (case a5 => k_is); (case l5 => k_is); (case c5 => k_is); (case k5 => k_is); (case a6 => k_is); (case l6 => k_is); (case c6 => k_is); (case k6 => k_is); (case a7 => k_is); (case l7 => k_is); (case c7 => k_is); (case k7 => k_is); (case a8 => k_is); (case l8 => k_is); (case c8 => k_is); (case k8 => k_is); (case a9 => k_is); (case l9 => k_is); (case c9 => k_is); (case k9 => k_is); (case a10 => k_is); (case l10 => k_is); (case c10 => k_is); (case k10 => k_is); (case z0 => k_is); (case z1 => k_is); (case z2 => k_is); (case z3 => k_is); (case z4 => k_is); (case z5 => k_is); (case z6 => k_is); (case z7 => k_is); (case z8 => k_is); (case z9 => k_is); (case z10 => k_is)
