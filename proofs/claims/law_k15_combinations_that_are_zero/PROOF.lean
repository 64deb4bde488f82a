import PyProof.Rows.All
import Wide.All
import OpenK.AllK
import Wide.FinOn
import HandS.ForMost
import HandS.IsInst
import HandS.Zip
import HandS.Walk
import HandS.Deep
import HandS.Flow
import HandS.Style
import HandS.ExcInit
import HandS.Lambda
import HandS.EndTab
import HandS.Star
import HandS.Evl
import HandS.Dict
import HandS.DictTup
import HandS.Property
import HandS.TupAny
import HandS.More
import HandS.ClsMeth
import HandS.Wide
import HandS.Gcd
import HandS.RevRange
import HandS.TupMul
import HandS.Conv
import HandS.DictComp
import HandS.Defaults
import KE.KUnpackStar
import PySem.Challenge.RW_twinbegun_k15_combinations_that_are_zero
set_option Elab.async false
set_option linter.all false
set_option maxRecDepth 100000
set_option maxHeartbeats 4000000
/-! Data in place of heaps: a def's run told by what its values hold. -/
namespace DL
open PySem PySem.Spec PyProof.Rows L2

/-- whose bag is used; how the code objects are named that a table tells of -/
structure Bg where
  bag : Option Addr
  nm : Addr → Str := fun _ => Str.empty
  tb : List Addr := []
/-- a lambda of the text: its name's place, its parameters, its body, its names -/
structure Lam where
  qual : Str
  params : Arguments
  body : Expr
  scope : Scope
  df : Bool
  fv : List Str
/-- the lambda's names: N the captured ones -/
structure LamN (L : Lam) (N : List Str) : Prop where
  nd : N.Nodup
  kind : L.scope.kind = .function
  co : L.scope.isCoroutine = false
  gen : L.scope.isGenerator = false
  cell : ∀ y ∈ L.scope.names, y.2 ≠ .cell
  to : ∀ y, (y, NameKind.free) ∈ L.scope.names → y ∈ N
  fr : ∀ y ∈ N, L.scope.names.lookup y = some .free
def lamNB (L : Lam) (N : List Str) : Bool :=
  decide N.Nodup && (decide (L.scope.kind = .function) && (!L.scope.isCoroutine && (!L.scope.isGenerator && (L.scope.names.all (fun y => !decide (y.2 = .cell) && (!decide (y.2 = .free) || decide (y.1 ∈ N))) && N.all fun y => decide (L.scope.names.lookup y = some .free)))))
theorem lamN_by {L : Lam} {N : List Str} (h : lamNB L N = true) : LamN L N := by
  unfold lamNB at h
  simp only [Bool.and_eq_true, Bool.or_eq_true, Bool.not_eq_true', decide_eq_true_eq, decide_eq_false_iff_not, List.all_eq_true] at h
  obtain ⟨h1, h2, h3, h4, h5, h6⟩ := h
  refine ⟨h1, h2, h3, h4, fun y hy => (h5 y hy).1, fun y hy => ?_, h6⟩
  rcases (h5 _ hy).2 with z | z
  · exact absurd rfl z
  · exact z
/-- a closure κ of the lambda: its free names' cells, each its own -/
structure KOk (L : Lam) (κ : List (Str × Addr)) : Prop where
  nm : LamN L L.fv
  fr : ∀ x c, κ.lookup x = some c → (x, NameKind.free) ∈ L.scope.names
  inj : ∀ x y c, κ.lookup x = some c → κ.lookup y = some c → x = y
  has : ∀ y ∈ L.scope.names, y.2 = .free → ∃ c, κ.lookup y.1 = some c
def dfV : Option Addr → Value
  | some T => .ref T
  | none => .none
/-- the object of such a lambda, made with the closure κ, its code at c' -/
def lamO (f : Addr) (L : Lam) (κ : List (Str × Addr)) (dT : Option Addr) (c' : Addr) : HO := .ext fun h => ∃ (pm ctv : Value), h.get? f = some
  { data := .func { params := L.params, name := "<lambda>", scope := L.scope, qualname := L.qual, body := .expr L.body, closure := κ, globals := mainGlobals, kwdefaults := .none, defaults := dfV dT, pyModule := pm, doc := .none, annotations := none, closureTuple := ctv, code := .ref c', builtins := builtinsNs }, cls := .type "function" }
/-- a cell that stands still -/
def cellO (c : Addr) (o : Obj) : HO := .ext fun h => h.get? c = some o
/-- an exception of the class at C, its dict at dx -/
def exV (a C dx : Addr) : HO := .ext fun h => ∃ oe : Obj, h.get? a = some oe ∧ oe.cls = .ref C ∧ oe.dict = some dx ∧ ∃ fv : Array Value, oe.data = .fields fv
def notTbl (o : HO) : Prop := ∀ ps, o ≠ .tbl ps
theorem notTbl.lst {xs : List V} : notTbl (.lst xs) := fun _ z => by cases z
theorem notTbl.dK {xs : List (Key × V)} : notTbl (.dK xs) := fun _ z => by cases z
theorem notTbl.dT {xs : List (List Key × V)} : notTbl (.dT xs) := fun _ z => by cases z
theorem notTbl.ins {C dx : Addr} {xs : List (Str × V)} : notTbl (.ins C dx xs) := fun _ z => by cases z
def notExt (o : HO) : Prop := ∀ φ, o ≠ .ext φ
theorem notExt.lst {xs : List V} : notExt (.lst xs) := fun _ z => by cases z
theorem notExt.dK {xs : List (Key × V)} : notExt (.dK xs) := fun _ z => by cases z
theorem notExt.dT {xs : List (List Key × V)} : notExt (.dT xs) := fun _ z => by cases z
theorem notExt.ins {C dx : Addr} {xs : List (Str × V)} : notExt (.ins C dx xs) := fun _ z => by cases z
theorem notExt.tbl {ps : Array Value} : notExt (.tbl ps) := fun _ z => by cases z
/-- what a value holds -/
inductive Dt where
  | non | bl (k : Bool) | int (i : Int) | str (x : Str)
  | lst (xs : List Dt) | tup (xs : List Dt)
  | ins (C : Addr) (fs : List (Str × Dt))
  | dT (kvs : List (List Key × Dt))
  | dK (kvs : List (Str × Dt))
  /-- a thing of which only the place is said -/
  | ptr (a : Addr)
  | bag
  /-- an exception of the class at C -/
  | exc (C : Addr) (fs : List (Str × Dt))
  /-- a lambda, made with the closure κ; one whose captured names hold ds -/
  | lam (L : Lam) (κ : List (Str × Addr))
  | clo (L : Lam) (ds : List (Str × Dt))

/-- entries by text keys -/
def keysOf (vs : List (Str × V)) : List (Key × V) := vs.map fun p => (Sum.inr p.1, p.2)
mutual
inductive Rep (b : Bg) (F : Hp) : V → Dt → Prop
  | non : Rep b F .non .non
  | bl (k : Bool) : Rep b F (.bl k) (.bl k)
  | int (i : Int) : Rep b F (.int i) (.int i)
  | str (x : Str) : Rep b F (.str x) (.str x)
  | lst {a : Addr} {vs : List V} {xs : List Dt} : F a = some (.lst vs) → RepL b F vs xs → Rep b F (.ref a) (.lst xs)
  | tup {a : Addr} {vs : List V} {xs : List Dt} : F a = some (.tup vs) → RepL b F vs xs → Rep b F (.ref a) (.tup xs)
  | ins {a C dx : Addr} {vs : List (Str × V)} {fs : List (Str × Dt)} : F a = some (.ins C dx vs) → RepF b F vs fs → Rep b F (.ref a) (.ins C fs)
  | dT {a : Addr} {vs : List (List Key × V)} {kvs : List (List Key × Dt)} : F a = some (.dT vs) → RepD b F vs kvs → Rep b F (.ref a) (.dT kvs)
  | dK {a : Addr} {vs : List (Str × V)} {kvs : List (Str × Dt)} : F a = some (.dK (keysOf vs)) → RepF b F vs kvs → Rep b F (.ref a) (.dK kvs)
  | ptr (a : Addr) : Rep b F (.ref a) (.ptr a)
  | bag {a : Addr} : b.bag = some a → Rep b F (.ref a) .bag
  | exc {a C dx : Addr} {vs : List (Str × V)} {fs : List (Str × Dt)} : F a = some (exV a C dx) → F dx = some (.xd vs) → RepF b F vs fs → Rep b F (.ref a) (.exc C fs)
  | lam {f c' : Addr} {L : Lam} {κ : List (Str × Addr)} {dT : Option Addr} : F f = some (lamO f L κ dT c') → F c' = some (LamX.CodeO c' L.qual) → KOk L κ → dT.isSome = L.df → (∀ T, dT = some T → ∃ z, F T = some (.tup [z])) → Rep b F (.ref f) (.lam L κ)
  | clo {f c' : Addr} {L : Lam} {κ : List (Str × Addr)} {dT : Option Addr} {vs : List (Str × V)} {ds : List (Str × Dt)} : F f = some (lamO f L κ dT c') → F c' = some (LamX.CodeO c' L.qual) → KOk L κ → dT.isSome = L.df → (∀ T, dT = some T → ∃ z, F T = some (.tup [z])) →
      (∀ p, p ∈ vs → ∃ (c : Addr) (o : Obj) (u : Value), κ.lookup p.1 = some c ∧ F c = some (cellO c o) ∧ o.data = .cell (some u) ∧ RelV p.2 u) → RepF b F vs ds → Rep b F (.ref f) (.clo L ds)
inductive RepL (b : Bg) (F : Hp) : List V → List Dt → Prop
  | nil : RepL b F [] []
  | cons {v : V} {vs : List V} {d : Dt} {ds : List Dt} : Rep b F v d → RepL b F vs ds → RepL b F (v :: vs) (d :: ds)
inductive RepF (b : Bg) (F : Hp) : List (Str × V) → List (Str × Dt) → Prop
  | nil : RepF b F [] []
  | cons {n : Str} {v : V} {vs : List (Str × V)} {d : Dt} {ds : List (Str × Dt)} : Rep b F v d → RepF b F vs ds → RepF b F ((n, v) :: vs) ((n, d) :: ds)
inductive RepD (b : Bg) (F : Hp) : List (List Key × V) → List (List Key × Dt) → Prop
  | nil : RepD b F [] []
  | cons {n : List Key} {v : V} {vs : List (List Key × V)} {d : Dt} {ds : List (List Key × Dt)} : Rep b F v d → RepD b F vs ds → RepD b F ((n, v) :: vs) ((n, d) :: ds)
end
def Sub (F F' : Hp) : Prop := ∀ a o, F a = some o → F' a = some o
theorem Sub.refl (F : Hp) : Sub F F := fun _ _ h => h
theorem Sub.trans {F F' F'' : Hp} (a : Sub F F') (c : Sub F' F'') : Sub F F'' := fun x o h => c x o (a x o h)
section
variable {b : Bg} {F F' : Hp}
mutual
theorem Rep.mono (s : Sub F F') : ∀ {d : Dt} {v : V}, Rep b F v d → Rep b F' v d
  | .non, _, h => by cases h; exact .non
  | .bl _, _, h => by cases h; exact .bl _
  | .int _, _, h => by cases h; exact .int _
  | .str _, _, h => by cases h; exact .str _
  | .lst xs, _, h => by
    cases h with
    | lst e r => exact .lst (s _ _ e) (RepL.mono s r)
  | .tup xs, _, h => by
    cases h with
    | tup e r => exact .tup (s _ _ e) (RepL.mono s r)
  | .ins C fs, _, h => by
    cases h with
    | ins e r => exact .ins (s _ _ e) (RepF.mono s r)
  | .dT kvs, _, h => by
    cases h with
    | dT e r => exact .dT (s _ _ e) (RepD.mono s r)
  | .dK kvs, _, h => by
    cases h with
    | dK e r => exact .dK (s _ _ e) (RepF.mono s r)
  | .ptr _, _, h => by cases h; exact .ptr _
  | .bag, _, h => by
    cases h with
    | bag e => exact .bag e
  | .exc C fs, _, h => by
    cases h with
    | exc e e2 r => exact .exc (s _ _ e) (s _ _ e2) (RepF.mono s r)
  | .lam L κ, _, h => by
    cases h with
    | lam e e2 k kd e3 => exact .lam (s _ _ e) (s _ _ e2) k kd fun T q => (e3 T q).imp fun z hz => s _ _ hz
  | .clo L ds, _, h => by
    cases h with
    | clo e e2 k kd e3 e4 r => exact .clo (s _ _ e) (s _ _ e2) k kd (fun T q => (e3 T q).imp fun z hz => s _ _ hz) (fun p hp => by
        obtain ⟨c, o, u, h1, h2, h3⟩ := e4 p hp
        exact ⟨c, o, u, h1, s _ _ h2, h3⟩) (RepF.mono s r)
theorem RepL.mono (s : Sub F F') : ∀ {ds : List Dt} {vs : List V}, RepL b F vs ds → RepL b F' vs ds
  | [], _, h => by cases h; exact .nil
  | d :: ds, _, h => by
    cases h with
    | cons r t => exact .cons (Rep.mono s r) (RepL.mono s t)
theorem RepF.mono (s : Sub F F') : ∀ {ds : List (Str × Dt)} {vs : List (Str × V)}, RepF b F vs ds → RepF b F' vs ds
  | [], _, h => by cases h; exact .nil
  | (n, d) :: ds, _, h => by
    cases h with
    | cons r t => exact .cons (Rep.mono s r) (RepF.mono s t)
theorem RepD.mono (s : Sub F F') : ∀ {ds : List (List Key × Dt)} {vs : List (List Key × V)}, RepD b F vs ds → RepD b F' vs ds
  | [], _, h => by cases h; exact .nil
  | (n, d) :: ds, _, h => by
    cases h with
    | cons r t => exact .cons (Rep.mono s r) (RepD.mono s t)
end
/-- an object of the heap holds a list, a dict, an instance -/
inductive RepO (b : Bg) (F : Hp) : HO → Dt → Prop
  | lst {vs : List V} {xs : List Dt} : RepL b F vs xs → RepO b F (.lst vs) (.lst xs)
  | ins {C dx : Addr} {vs : List (Str × V)} {fs : List (Str × Dt)} : RepF b F vs fs → RepO b F (.ins C dx vs) (.ins C fs)
  | dT {vs : List (List Key × V)} {kvs : List (List Key × Dt)} : RepD b F vs kvs → RepO b F (.dT vs) (.dT kvs)
  | dK {vs : List (Str × V)} {kvs : List (Str × Dt)} : RepF b F vs kvs → RepO b F (.dK (keysOf vs)) (.dK kvs)
theorem RepO.rep {a : Addr} {u : HO} {d : Dt} (h : F a = some u) (r : RepO b F u d) : Rep b F (.ref a) d := by
  cases r with
  | lst r => exact .lst h r
  | ins r => exact .ins h r
  | dT r => exact .dT h r
  | dK r => exact .dK h r
theorem RepO.nt {u : HO} {d : Dt} (r : RepO b F u d) : notTbl u := by
  cases r with
  | lst r => exact .lst
  | ins r => exact .ins
  | dT r => exact .dT
  | dK r => exact .dK
theorem RepO.ne {u : HO} {d : Dt} (r : RepO b F u d) : notExt u := by
  cases r with
  | lst r => exact fun _ z => by cases z
  | ins r => exact fun _ z => by cases z
  | dT r => exact fun _ z => by cases z
  | dK r => exact fun _ z => by cases z
theorem RepO.mono (s : Sub F F') {u : HO} {d : Dt} (r : RepO b F u d) : RepO b F' u d := by
  cases r with
  | lst r => exact .lst (r.mono s)
  | ins r => exact .ins (r.mono s)
  | dT r => exact .dT (r.mono s)
  | dK r => exact .dK (r.mono s)
theorem RepL.length : ∀ {ds : List Dt} {vs : List V}, RepL b F vs ds → vs.length = ds.length
  | [], _, h => by cases h; rfl
  | d :: ds, _, h => by
    cases h with
    | cons r t => exact congrArg (· + 1) (RepL.length t)
theorem RepL.get : ∀ {ds : List Dt} {vs : List V} {i : Nat} {v : V}, RepL b F vs ds → vs[i]? = some v → ∃ d, ds[i]? = some d ∧ Rep b F v d
  | _, _, _, _, .nil, e => by simp at e
  | _, _, 0, _, .cons r _, e => by simp at e; subst e; exact ⟨_, rfl, r⟩
  | _, _, i + 1, v, .cons _ t, e => by
    obtain ⟨d, h1, h2⟩ := RepL.get (i := i) (v := v) t (by simpa using e)
    exact ⟨d, by simpa using h1, h2⟩
theorem RepL.get' : ∀ {ds : List Dt} {vs : List V} {i : Nat} {d : Dt}, RepL b F vs ds → ds[i]? = some d → ∃ v, vs[i]? = some v ∧ Rep b F v d
  | _, _, _, _, .nil, e => by simp at e
  | _, _, 0, _, .cons r _, e => by simp at e; subst e; exact ⟨_, rfl, r⟩
  | _, _, i + 1, v, .cons _ t, e => by
    obtain ⟨d, h1, h2⟩ := RepL.get' (i := i) t (by simpa using e)
    exact ⟨d, by simpa using h1, h2⟩
theorem RepL.append : ∀ {xs ys : List Dt} {vs ws : List V}, RepL b F vs xs → RepL b F ws ys → RepL b F (vs ++ ws) (xs ++ ys)
  | _, _, _, _, .nil, s => s
  | _, _, _, _, .cons r t, s => .cons r (RepL.append t s)
theorem RepL.take : ∀ {xs : List Dt} {vs : List V} (n : Nat), RepL b F vs xs → RepL b F (vs.take n) (xs.take n)
  | _, _, 0, _ => .nil
  | _, _, _ + 1, .nil => .nil
  | _, _, n + 1, .cons r t => .cons r (RepL.take n t)
theorem RepL.drop : ∀ {xs : List Dt} {vs : List V} (n : Nat), RepL b F vs xs → RepL b F (vs.drop n) (xs.drop n)
  | _, _, 0, r => r
  | _, _, _ + 1, .nil => .nil
  | _, _, n + 1, .cons _ t => RepL.drop n t
theorem RepF.look : ∀ {ds : List (Str × Dt)} {vs : List (Str × V)} {f : Str} {d : Dt}, RepF b F vs ds → ds.lookup f = some d → ∃ v, vs.lookup f = some v ∧ Rep b F v d
  | _, _, _, _, .nil, e => by simp at e
  | _, _, f, d, .cons (n := n) r t, e => by
    rw [List.lookup_cons] at e ⊢
    cases q : f == n with
    | true =>
      rw [q] at e
      exact ⟨_, rfl, by cases e; exact r⟩
    | false =>
      rw [q] at e
      exact RepF.look t e
theorem RepF.no : ∀ {ds : List (Str × Dt)} {vs : List (Str × V)} {f : Str}, RepF b F vs ds → ds.lookup f = none → vs.lookup f = none
  | _, _, _, .nil, e => rfl
  | _, _, f, .cons (n := n) r t, e => by
    rw [List.lookup_cons] at e ⊢
    cases q : f == n with
    | true =>
      rw [q] at e
      cases e
    | false =>
      rw [q] at e
      exact RepF.no t e
end
/-! ### the bag, growth -/
def BagOk (F H : Hp) : Option Addr → Prop
  | none => True
  | some a => F a = none ∧ ∃ (c : Addr) (cs : List Int) (i : Nat) (v m k : Int), F c = some (.lst (cs.map V.int)) ∧ H a = some (.lst [.ref c, .int i, .int v, .int m, .int k]) ∧ 0 ≤ m ∧ m < 2147483563 ∧ cs.length ≤ 63
def NoT (F : Hp) : Prop := ∀ a o, F a = some o → notTbl o
/-- the tables tell of code objects of their own name -/
def TabsOk (b : Bg) (H : Hp) : Prop := ∀ P, P ∈ b.tb → LamX.TabS H P (b.nm P)
def Ok (b : Bg) (F H : Hp) : Prop := Sub F H ∧ BagOk F H b.bag ∧ NoT F ∧ TabsOk b H
structure Ext (b : Bg) (F H F' H' : Hp) : Prop where
  keep : ∀ a o, b.bag ≠ some a → H a = some o → notTbl o → H' a = some o
  grow : Sub F F'
  sub : Sub F' H'
  new : ∀ a o, H a = some o → notExt o → F' a = F a
  bag : BagOk F' H' b.bag
  nt : NoT F'
  tbl : ∀ a ps, H a = some (.tbl ps) → ∃ qs, H' a = some (.tbl qs)
  tabs : TabsOk b H'
  cell : ∀ a c r, b.bag = some a → H a = some (.lst (.ref c :: r)) → ∃ c' r', H' a = some (.lst (.ref c' :: r')) ∧ (c' = c ∨ H c' = none)
section
variable {b : Bg} {F H F' H' F'' H'' : Hp} {p : Addr} {o : HO}
theorem Ext.refl (k : Ok b F H) : Ext b F H F H := ⟨fun _ _ _ h _ => h, Sub.refl F, k.1, fun _ _ _ _ => rfl, k.2.1, k.2.2.1, fun _ ps h => ⟨ps, h⟩, k.2.2.2, fun _ c r _ h => ⟨c, r, h, .inl rfl⟩⟩
theorem Ext.ok (x : Ext b F H F' H') : Ok b F' H' := ⟨x.sub, x.bag, x.nt, x.tabs⟩
theorem Ext.trans (x : Ext b F H F' H') (y : Ext b F' H' F'' H'') : Ext b F H F'' H'' where
  keep := fun a o n h t => y.keep a o n (x.keep a o n h t) t
  tbl := fun a ps h => by
    obtain ⟨qs, h2⟩ := x.tbl a ps h
    exact y.tbl a qs h2
  tabs := y.tabs
  grow := x.grow.trans y.grow
  sub := y.sub
  new := fun a o h ne => by
    by_cases n : b.bag = some a
    · have q := x.bag
      rw [n] at q
      obtain ⟨q0, _, _, _, _, _, _, _, q1, _⟩ := q
      rw [y.new a _ q1 .lst, x.new a o h ne]
    · cases o with
      | tbl ps =>
        obtain ⟨qs, h2⟩ := x.tbl a ps h
        rw [y.new a _ h2 .tbl, x.new a _ h ne]
      | _ => rw [y.new a _ (x.keep a _ n h fun _ z => by cases z) ne, x.new a _ h ne]
  bag := y.bag
  nt := y.nt
  cell := fun a c r e h => by
    obtain ⟨c1, r1, h1, q1⟩ := x.cell a c r e h
    obtain ⟨c2, r2, h2, q2⟩ := y.cell a c1 r1 e h1
    refine ⟨c2, r2, h2, ?_⟩
    rcases q2 with q2 | q2
    · rw [q2]; exact q1
    · right
      cases z : H c2 with
      | none => rfl
      | some o =>
        by_cases n : b.bag = some c2
        · have q := x.bag
          rw [n] at q
          obtain ⟨_, _, _, _, _, _, _, _, w, _⟩ := q
          rw [q2] at w; cases w
        · cases o with
          | tbl ps =>
            obtain ⟨qs, h3⟩ := x.tbl c2 ps z
            rw [h3] at q2; cases q2
          | _ => rw [x.keep c2 _ n z fun _ z => by cases z] at q2; cases q2
theorem Ok.bagAt (k : Ok b F H) {a : Addr} (e : b.bag = some a) : ∃ o, H a = some o := by
  obtain ⟨_, q, _⟩ := k
  rw [e] at q
  obtain ⟨_, _, _, _, _, _, _, _, q1, _⟩ := q
  exact ⟨_, q1⟩
theorem Ok.bagF (k : Ok b F H) {a : Addr} (e : b.bag = some a) : F a = none := by
  obtain ⟨_, q, _⟩ := k
  rw [e] at q
  exact q.1
/-- BagOk looks at the bag and at its cells alone -/
theorem BagOk.to (k : Ok b F H) (g : Sub F F') (n : ∀ a, b.bag = some a → F' a = none) (h : ∀ a o, b.bag = some a → H a = some o → H' a = some o) : BagOk F' H' b.bag := by
  obtain ⟨_, q, _⟩ := k
  obtain ⟨bg, nm⟩ := b
  cases bg with
  | none => trivial
  | some a =>
    obtain ⟨_, c, cs, i, v, m, z, q1, q2, q3⟩ := q
    exact ⟨n a rfl, c, cs, i, v, m, z, g _ _ q1, h a _ rfl q2, q3⟩
/-- a new object that stays out of F -/
theorem Ext.laid (k : Ok b F H) (hp : H p = none) : Ext b F H F (upd H p o) where
  keep := fun a u _ h _ => by rw [upd_ne (ne_of_none h hp)]; exact h
  tbl := fun a ps h => ⟨ps, by rw [upd_ne (ne_of_none h hp)]; exact h⟩
  tabs := fun P h => (k.2.2.2 P h).ext fun a u e => by rw [upd_ne (ne_of_none e hp)]; exact e
  nt := k.2.2.1
  grow := Sub.refl F
  sub := fun a u h => by rw [upd_ne (ne_of_none (k.1 a u h) hp)]; exact k.1 a u h
  new := fun _ _ _ _ => rfl
  bag := BagOk.to k (Sub.refl F) (fun a e => k.bagF e) fun a u e h => by rw [upd_ne (ne_of_none h hp)]; exact h
  cell := fun a c r e h => ⟨c, r, by rw [upd_ne (ne_of_none h hp)]; exact h, .inl rfl⟩
/-- a new object, taken into F -/
theorem NoT.upd {u : HO} (n : NoT F) (nu : notTbl u) : NoT (upd F p u) := fun a v h => by
  by_cases e : a = p
  · rw [e, upd_same] at h
    cases h
    exact nu
  · rw [upd_ne e] at h
    exact n a v h
theorem Ext.push (k : Ok b F H) (hp : H p = none) (nu : notTbl o := by intro _ z; cases z) : Ext b F H (upd F p o) (upd H p o) where
  keep := fun a u _ h _ => by rw [upd_ne (ne_of_none h hp)]; exact h
  tbl := fun a ps h => ⟨ps, by rw [upd_ne (ne_of_none h hp)]; exact h⟩
  tabs := fun P h => (k.2.2.2 P h).ext fun a u e => by rw [upd_ne (ne_of_none e hp)]; exact e
  nt := k.2.2.1.upd nu
  grow := fun a u h => by rw [upd_ne (ne_of_none (k.1 a u h) hp)]; exact h
  sub := fun a u h => by
    by_cases e : a = p
    · subst e; rw [upd_same] at h ⊢; exact h
    · rw [upd_ne e] at h ⊢; exact k.1 a u h
  new := fun a u h _ => by rw [upd_ne (ne_of_none h hp)]
  bag := BagOk.to k (fun a u h => by rw [upd_ne (ne_of_none (k.1 a u h) hp)]; exact h) (fun a e => by
    obtain ⟨u, q⟩ := k.bagAt e
    rw [upd_ne (ne_of_none q hp)]
    exact k.bagF e) fun a u e h => by rw [upd_ne (ne_of_none h hp)]; exact h
  cell := fun a c r e h => ⟨c, r, by rw [upd_ne (ne_of_none h hp)]; exact h, .inl rfl⟩
/-- an object that stands in H', new since H, not in F', is taken into F' -/
theorem Ext.take (x : Ext b F H F' H') (hp : H p = none) (hn : b.bag ≠ some p) (h : H' p = some o) (nu : notTbl o := by intro _ z; cases z) : Ext b F H (upd F' p o) H' where
  keep := x.keep
  tbl := x.tbl
  tabs := x.tabs
  nt := x.nt.upd nu
  grow := fun a u q => by
    by_cases e : a = p
    · subst e
      have z := x.sub _ _ (x.grow _ _ q)
      rw [h] at z
      rw [upd_same]
      exact z
    · rw [upd_ne e]; exact x.grow a u q
  sub := fun a u q => by
    by_cases e : a = p
    · subst e; rw [upd_same] at q; rw [h]; exact q
    · rw [upd_ne e] at q; exact x.sub a u q
  new := fun a u q ne => by rw [upd_ne (ne_of_none q hp)]; exact x.new a u q ne
  bag := BagOk.to x.ok (fun a u q => by
    by_cases e : a = p
    · subst e
      have z := x.sub _ _ q
      rw [h] at z
      rw [upd_same]
      exact z
    · rw [upd_ne e]; exact q) (fun a e => by rw [upd_ne (fun z => hn (e.trans (congrArg some z)))]; exact x.ok.bagF e) fun a u _ q => q
  cell := x.cell
/-- a thing that is told by what is true of it is taken into F' -/
theorem Ext.takeE {φ : Heap → Prop} (x : Ext b F H F' H') (hf : F' p = none) (h : H' p = some (.ext φ)) (hp : ∀ u, H p = some u → u = .ext φ) : Ext b F H (upd F' p (.ext φ)) H' where
  keep := x.keep
  tbl := x.tbl
  tabs := x.tabs
  nt := x.nt.upd fun _ z => by cases z
  grow := fun a u q => by rw [upd_ne (ne_of_none (x.grow _ _ q) hf)]; exact x.grow a u q
  sub := fun a u q => by
    by_cases e : a = p
    · subst e; rw [upd_same] at q; rw [h]; exact q
    · rw [upd_ne e] at q; exact x.sub a u q
  new := fun a u q ne => by
    have hn : a ≠ p := fun e => by
      rw [e] at q
      exact ne φ (hp u q)
    rw [upd_ne hn]; exact x.new a u q ne
  bag := by
    have nb : b.bag ≠ some p := fun e => by
      have q := x.bag
      rw [e] at q
      obtain ⟨_, _, _, _, _, _, _, _, q1, _⟩ := q
      rw [h] at q1
      cases q1
    exact BagOk.to x.ok (fun a u q => by rw [upd_ne (ne_of_none q hf)]; exact q) (fun a e => by rw [upd_ne (fun z => nb (e.trans (congrArg some z)))]; exact x.ok.bagF e) fun a u _ q => q
  cell := x.cell
theorem tabS_wr {P : Addr} {q : Str} {u : HO} (h : LamX.TabS H P q) (hu : H p = some u) (nu : notTbl u) (ne : notExt u) : LamX.TabS (upd H p o) P q := by
  obtain ⟨ps, h1, h2, h3⟩ := h
  refine ⟨ps, ?_, h2, fun pos cv hc => ?_⟩
  · rw [upd_ne]
    · exact h1
    · intro z
      rw [z, hu] at h1
      exact nu ps (Option.some.inj h1)
  · obtain ⟨c, e1, e2⟩ := h3 pos cv hc
    refine ⟨c, e1, ?_⟩
    rw [upd_ne]
    · exact e2
    · intro z
      rw [z, hu] at e2
      exact ne _ (Option.some.inj e2)
/-- an object that H does not know, and that F' has not, is written -/
theorem Ext.wr {u : HO} (x : Ext b F H F' H') (hp : H p = none) (hf : F' p = none) (hn : b.bag ≠ some p) (hu : H' p = some u) (nu : notTbl u) (ne : notExt u) : Ext b F H F' (upd H' p o) where
  keep := fun a u n h t => by rw [upd_ne (ne_of_none h hp)]; exact x.keep a u n h t
  tbl := fun a ps h => by
    obtain ⟨qs, h2⟩ := x.tbl a ps h
    exact ⟨qs, by rw [upd_ne (ne_of_none h hp)]; exact h2⟩
  tabs := fun P h => tabS_wr (x.tabs P h) hu nu ne
  nt := x.nt
  grow := x.grow
  sub := fun a u h => by rw [upd_ne (ne_of_none h hf)]; exact x.sub a u h
  new := x.new
  bag := BagOk.to x.ok (Sub.refl _) (fun a e => x.ok.bagF e) fun a u e h => by rw [upd_ne (fun z => hn (e.trans (congrArg some z)))]; exact h
  cell := fun a c r e h => by
    obtain ⟨c', r', h', q⟩ := x.cell a c r e h
    exact ⟨c', r', by rw [upd_ne (fun z => hn (e.trans (congrArg some z)))]; exact h', q⟩
theorem Ext.back (x : Ext b F H F' H') (k : Ok b F H) (h : H' p = none) : H p = none := by
  cases q : H p with
  | none => rfl
  | some u =>
    by_cases n : b.bag = some p
    · obtain ⟨w, z⟩ := x.ok.bagAt n
      rw [h] at z; cases z
    · cases u with
      | tbl ps =>
        obtain ⟨qs, h3⟩ := x.tbl p ps q
        rw [h3] at h; cases h
      | _ => rw [x.keep p _ n q fun _ z => by cases z] at h; cases h
theorem Ok.nb (k : Ok b F H) (h : H p = none) : b.bag ≠ some p := fun e => by
  obtain ⟨u, q⟩ := k.bagAt e
  rw [h] at q; cases q
theorem Ok.fF (k : Ok b F H) (h : H p = none) : F p = none := by
  cases q : F p with
  | none => rfl
  | some u => rw [k.1 p u q] at h; cases h
theorem Ext.mono (x : Ext b F H F' H') {v : V} {d : Dt} (r : Rep b F v d) : Rep b F' v d := r.mono x.grow
end
end DL

namespace DL
open PySem PySem.Spec PyProof.Rows L2
/-- a slot: nothing known, a value that holds d, a list that is this def's alone (it may still be changed) -/
inductive Sl where
  | un | val (d : Dt) | own (l : Addr) (xs : List Dt)
  /-- a dict or an instance that is this def's alone -/
  | obj (l : Addr) (d : Dt)
  /-- a list that is this def's alone, told of by a place within an own dict; the slot's name is out of use meanwhile -/
  | hid (l : Addr) (xs : List Dt)
/-- where a slot's own thing stands -/
def Sl.adr : Sl → Option Addr
  | .own l _ => some l
  | .obj l _ => some l
  | .hid l _ => some l
  | _ => none
abbrev Gm := List Sl
@[reducible] def gat : Gm → Nat → Sl
  | [], _ => .un
  | s :: _, 0 => s
  | _ :: r, n + 1 => gat r n
@[reducible] def gset : Gm → Nat → Sl → Gm
  | [], _, _ => []
  | _ :: r, 0, s => s :: r
  | z :: r, n + 1, s => z :: gset r n s
@[reducible] def gwipe (γ : Gm) : List Nat → Gm
  | [] => γ
  | i :: r => gset (gwipe γ r) i .un
theorem gset_len : ∀ (γ : Gm) (i : Nat) (s : Sl), (gset γ i s).length = γ.length
  | [], _, _ => rfl
  | _ :: _, 0, _ => rfl
  | _ :: r, n + 1, s => congrArg (· + 1) (gset_len r n s)
theorem gwipe_len (γ : Gm) : ∀ js, (gwipe γ js).length = γ.length
  | [] => rfl
  | i :: r => (gset_len _ i _).trans (gwipe_len γ r)
theorem gat_set_ne : ∀ (γ : Gm) {i j : Nat} (s : Sl), j ≠ i → gat (gset γ i s) j = gat γ j
  | [], _, _, _, _ => rfl
  | _ :: _, 0, 0, _, h => (h rfl).elim
  | _ :: _, 0, j + 1, _, _ => rfl
  | _ :: _, i + 1, 0, _, _ => rfl
  | _ :: r, i + 1, j + 1, s, h => gat_set_ne r s fun e => h (congrArg (· + 1) e)
theorem gat_set : ∀ (γ : Gm) {i : Nat} (s : Sl), gat (gset γ i s) i = s ∨ (gat (gset γ i s) i = .un ∧ γ.length ≤ i)
  | [], _, _ => .inr ⟨rfl, Nat.zero_le _⟩
  | _ :: _, 0, _ => .inl rfl
  | _ :: r, i + 1, s => by
    rcases gat_set r (i := i) s with h | ⟨h, k⟩
    · exact .inl h
    · exact .inr ⟨h, Nat.succ_le_succ k⟩
theorem gat_wipe (γ : Gm) {j : Nat} : ∀ {js : List Nat}, j ∉ js → gat (gwipe γ js) j = gat γ j
  | [], _ => rfl
  | i :: r, h => by
    show gat (gset (gwipe γ r) i .un) j = gat γ j
    rw [gat_set_ne _ _ (fun e => h (by rw [e]; exact List.mem_cons_self)), gat_wipe γ fun q => h (List.mem_cons_of_mem _ q)]
theorem gat_wiped (γ : Gm) {j : Nat} : ∀ {js : List Nat}, j ∈ js → gat (gwipe γ js) j = .un
  | i :: r, h => by
    show gat (gset (gwipe γ r) i .un) j = .un
    by_cases e : j = i
    · subst e
      rcases gat_set (gwipe γ r) (i := j) .un with q | ⟨q, _⟩ <;> exact q
    · rw [gat_set_ne _ _ e]
      rcases List.mem_cons.mp h with q | q
      · exact (e q).elim
      · exact gat_wiped γ q

def SlOk (b : Bg) (H0 F H : Hp) (w : Option (Option V)) : Sl → Prop
  | .un => True
  | .val d => ∃ v, w = some (some v) ∧ Rep b F v d
  | .own l xs => ∃ vs, w = some (some (.ref l)) ∧ H l = some (.lst vs) ∧ RepL b F vs xs ∧ F l = none ∧ H0 l = none ∧ b.bag ≠ some l
  | .obj l d => ∃ u, w = some (some (.ref l)) ∧ H l = some u ∧ RepO b F u d ∧ F l = none ∧ H0 l = none ∧ b.bag ≠ some l
  | .hid l xs => ∃ vs, H l = some (.lst vs) ∧ RepL b F vs xs ∧ F l = none ∧ H0 l = none ∧ b.bag ≠ some l
structure Nv (b : Bg) (Fm F0 H0 F H : Hp) (σ : L2.St) (γ : Gm) : Prop where
  ok0 : Ok b F0 H0
  fm : Sub Fm F
  ext : Ext b F0 H0 F H
  len : σ.length = γ.length
  slot : ∀ i, SlOk b H0 F H σ[i]? (gat γ i)
  dis : ∀ i j a, (gat γ i).adr = some a → (gat γ j).adr = some a → i = j
section
variable {b : Bg} {Fm F0 H0 F H F' H' : Hp} {σ : L2.St} {γ : Gm}
theorem Nv.ok (n : Nv b Fm F0 H0 F H σ γ) : Ok b F H := n.ext.ok
theorem SlOk.to {w : Option (Option V)} (x : Ext b F H F' H') : ∀ {s : Sl}, SlOk b H0 F H w s → SlOk b H0 F' H' w s
  | .un, _ => True.intro
  | .val d, h => by
    obtain ⟨v, h1, h2⟩ := h
    exact ⟨v, h1, x.mono h2⟩
  | .own l xs, h => by
    obtain ⟨vs, h1, h2, h3, h4, h5, h6⟩ := h
    exact ⟨vs, h1, x.keep _ _ h6 h2 .lst, h3.mono x.grow, by rw [x.new _ _ h2 .lst]; exact h4, h5, h6⟩
  | .obj l d, h => by
    obtain ⟨u, h1, h2, h3, h4, h5, h6⟩ := h
    exact ⟨u, h1, x.keep _ _ h6 h2 h3.nt, h3.mono x.grow, by rw [x.new _ _ h2 h3.ne]; exact h4, h5, h6⟩
  | .hid l xs, h => by
    obtain ⟨vs, h2, h3, h4, h5, h6⟩ := h
    exact ⟨vs, x.keep _ _ h6 h2 .lst, h3.mono x.grow, by rw [x.new _ _ h2 .lst]; exact h4, h5, h6⟩
theorem SlOk.grow {w : Option (Option V)} (g : Sub F F') : ∀ {s : Sl}, (∀ a, s.adr = some a → F a = none → F' a = none) → SlOk b H0 F H w s → SlOk b H0 F' H w s
  | .un, _, _ => True.intro
  | .val d, _, h => by
    obtain ⟨v, h1, h2⟩ := h
    exact ⟨v, h1, h2.mono g⟩
  | .own l xs, n, h => by
    obtain ⟨vs, h1, h2, h3, h4, h5, h6⟩ := h
    exact ⟨vs, h1, h2, h3.mono g, n l rfl h4, h5, h6⟩
  | .obj l d, n, h => by
    obtain ⟨u, h1, h2, h3, h4, h5, h6⟩ := h
    exact ⟨u, h1, h2, h3.mono g, n l rfl h4, h5, h6⟩
  | .hid l xs, n, h => by
    obtain ⟨vs, h2, h3, h4, h5, h6⟩ := h
    exact ⟨vs, h2, h3.mono g, n l rfl h4, h5, h6⟩
theorem SlOk.wr {w : Option (Option V)} {l : Addr} {o : HO} : ∀ {s : Sl}, (∀ a, s.adr = some a → a ≠ l) → SlOk b H0 F H w s → SlOk b H0 F (upd H l o) w s
  | .un, _, _ => True.intro
  | .val d, _, h => h
  | .own m xs, n, h => by
    obtain ⟨vs, h1, h2, h3, h4, h5, h6⟩ := h
    exact ⟨vs, h1, by rw [upd_ne (n m rfl)]; exact h2, h3, h4, h5, h6⟩
  | .obj m d, n, h => by
    obtain ⟨u, h1, h2, h3, h4, h5, h6⟩ := h
    exact ⟨u, h1, by rw [upd_ne (n m rfl)]; exact h2, h3, h4, h5, h6⟩
  | .hid m xs, n, h => by
    obtain ⟨vs, h2, h3, h4, h5, h6⟩ := h
    exact ⟨vs, by rw [upd_ne (n m rfl)]; exact h2, h3, h4, h5, h6⟩
theorem gat_set_out : ∀ (γ : Gm) {k : Nat} (s : Sl), γ.length ≤ k → gat (gset γ k s) k = .un
  | [], _, _, _ => rfl
  | _ :: _, 0, _, h => by cases h
  | _ :: r, k + 1, s, h => gat_set_out r s (Nat.le_of_succ_le_succ h)
theorem Nv.to (n : Nv b Fm F0 H0 F H σ γ) (x : Ext b F H F' H') : Nv b Fm F0 H0 F' H' σ γ where
  ok0 := n.ok0
  fm := n.fm.trans x.grow
  ext := n.ext.trans x
  len := n.len
  slot := fun i => (n.slot i).to x
  dis := n.dis
/-- a slot is given what it holds from now on -/
theorem Nv.setG (n : Nv b Fm F0 H0 F H σ γ) (i : Nat) {v : V} {s : Sl} (r : SlOk b H0 F H (some (some v)) s) (new : ∀ j a, j ≠ i → (gat γ j).adr = some a → s.adr ≠ some a) : Nv b Fm F0 H0 F H (σ.set i (some v)) (gset γ i s) where
  ok0 := n.ok0
  fm := n.fm
  ext := n.ext
  len := by rw [List.length_set, gset_len]; exact n.len
  slot := fun j => by
    by_cases e : j = i
    · subst e
      by_cases hl : j < σ.length
      · rcases gat_set γ (i := j) s with q | ⟨q, _⟩
        · rw [q, List.getElem?_set_self hl]; exact r
        · rw [q]; exact True.intro
      · rw [gat_set_out γ s (by rw [← n.len]; omega)]
        exact True.intro
    · rw [gat_set_ne _ _ e, List.getElem?_set_ne (Ne.symm e)]
      exact n.slot j
  dis := fun j k a hj hk => by
    have at_i : ∀ a, (gat (gset γ i s) i).adr = some a → s.adr = some a := fun a hz => by
      rcases gat_set γ (i := i) s with q | ⟨q, _⟩
      · rw [q] at hz; exact hz
      · rw [q] at hz; cases hz
    by_cases ej : j = i
    · by_cases ek : k = i
      · rw [ej, ek]
      · exfalso
        subst ej
        rw [gat_set_ne _ _ ek] at hk
        exact new k a ek hk (at_i a hj)
    · by_cases ek : k = i
      · exfalso
        subst ek
        rw [gat_set_ne _ _ ej] at hj
        exact new j a ej hj (at_i a hk)
      · rw [gat_set_ne _ _ ej] at hj
        rw [gat_set_ne _ _ ek] at hk
        exact n.dis j k a hj hk
/-- a slot is given a value -/
theorem Nv.set (n : Nv b Fm F0 H0 F H σ γ) (i : Nat) {v : V} {d : Dt} (r : Rep b F v d) : Nv b Fm F0 H0 F H (σ.set i (some v)) (gset γ i (.val d)) :=
  n.setG i (s := .val d) ⟨v, rfl, r⟩ fun _ _ _ _ h => by cases h
/-- a slot is given a list of its own: new since H1, where the slots stood as they do -/
theorem Nv.setOwn (n : Nv b Fm F0 H0 F H σ γ) (i : Nat) {l : Addr} {vs : List V} {xs : List Dt} (h : H l = some (.lst vs)) (r : RepL b F vs xs) (f : F l = none) (h0 : H0 l = none) (nb : b.bag ≠ some l)
    (new : ∀ j a, (gat γ j).adr = some a → a ≠ l) : Nv b Fm F0 H0 F H (σ.set i (some (.ref l))) (gset γ i (.own l xs)) :=
  n.setG i (s := .own l xs) ⟨vs, rfl, h, r, f, h0, nb⟩ fun j a _ hj e => new j a hj (Option.some.inj e).symm
theorem Nv.setObj (n : Nv b Fm F0 H0 F H σ γ) (i : Nat) {l : Addr} {u : HO} {d : Dt} (h : H l = some u) (r : RepO b F u d) (f : F l = none) (h0 : H0 l = none) (nb : b.bag ≠ some l)
    (new : ∀ j a, (gat γ j).adr = some a → a ≠ l) : Nv b Fm F0 H0 F H (σ.set i (some (.ref l))) (gset γ i (.obj l d)) :=
  n.setG i (s := .obj l d) ⟨u, rfl, h, r, f, h0, nb⟩ fun j a _ hj e => new j a hj (Option.some.inj e).symm
/-- an own thing stands in the heap -/
theorem Nv.there (n : Nv b Fm F0 H0 F H σ γ) {j : Nat} {a : Addr} (h : (gat γ j).adr = some a) : ∃ u, H a = some u := by
  have hj := n.slot j
  cases e : gat γ j with
  | un => rw [e] at h; cases h
  | val d => rw [e] at h; cases h
  | own l xs =>
    rw [e] at h hj
    cases h
    obtain ⟨vs, _, h2, _⟩ := hj
    exact ⟨_, h2⟩
  | obj l d =>
    rw [e] at h hj
    cases h
    obtain ⟨u, _, h2, _⟩ := hj
    exact ⟨_, h2⟩
  | hid l xs =>
    rw [e] at h hj
    cases h
    obtain ⟨vs, h2, _⟩ := hj
    exact ⟨_, h2⟩
/-- what an own slot's list is, is no longer asked for -/
theorem Nv.forget (n : Nv b Fm F0 H0 F H σ γ) {σ' : L2.St} {γ' : Gm} (hl : σ'.length = σ.length) (hg : γ'.length = γ.length) (h : ∀ i, gat γ' i = .un ∨ (gat γ' i = gat γ i ∧ σ'[i]? = σ[i]?)) : Nv b Fm F0 H0 F H σ' γ' where
  ok0 := n.ok0
  fm := n.fm
  ext := n.ext
  len := by rw [hl, hg]; exact n.len
  slot := fun i => by
    rcases h i with e | ⟨e, e'⟩
    · rw [e]; exact True.intro
    · rw [e, e']; exact n.slot i
  dis := fun j k a hj hk => by
    rcases h j with e | ⟨e, e'⟩
    · rw [e] at hj; cases hj
    · rcases h k with f | ⟨f, f'⟩
      · rw [f] at hk; cases hk
      · exact n.dis j k a (e ▸ hj) (f ▸ hk)
/-- an own thing becomes a value like any other -/
theorem Nv.freezeG (n : Nv b Fm F0 H0 F H σ γ) {i : Nat} {l : Addr} {u : HO} {d : Dt} (ea : (gat γ i).adr = some l) (h1 : σ[i]? = some (some (.ref l))) (h2 : H l = some u) (h3 : RepO b F u d) (h4 : F l = none) (h5 : H0 l = none) (h6 : b.bag ≠ some l) :
    Nv b Fm F0 H0 (upd F l u) H σ (gset γ i (.val d)) ∧ Sub F (upd F l u) := by
  have x : Ext b F0 H0 (upd F l u) H := n.ext.take h5 h6 h2 h3.nt
  have g : Sub F (upd F l u) := fun a o q => by rw [upd_ne (ne_of_none q h4)]; exact q
  refine ⟨⟨n.ok0, n.fm.trans g, x, by rw [gset_len]; exact n.len, fun j => ?_, fun j k a hj hk => ?_⟩, g⟩
  · by_cases ej : j = i
    · subst ej
      rcases gat_set γ (i := j) (.val d) with q | ⟨q, _⟩
      · rw [q]
        exact ⟨.ref l, h1, (h3.mono g).rep upd_same⟩
      · rw [q]; exact True.intro
    · rw [gat_set_ne _ _ ej]
      exact (n.slot j).grow g fun a ha hn => by rw [upd_ne (fun z => ej (n.dis j i a ha (by rw [ea, z])))]; exact hn
  · have nj : j ≠ i := fun z => by
      subst z
      rcases gat_set γ (i := j) (.val d) with q | ⟨q, _⟩ <;> (rw [q] at hj; cases hj)
    have nk : k ≠ i := fun z => by
      subst z
      rcases gat_set γ (i := k) (.val d) with q | ⟨q, _⟩ <;> (rw [q] at hk; cases hk)
    rw [gat_set_ne _ _ nj] at hj
    rw [gat_set_ne _ _ nk] at hk
    exact n.dis j k a hj hk
theorem Nv.freeze (n : Nv b Fm F0 H0 F H σ γ) {i : Nat} {l : Addr} {xs : List Dt} (e : gat γ i = .own l xs) : ∃ F', Nv b Fm F0 H0 F' H σ (gset γ i (.val (.lst xs))) ∧ Sub F F' := by
  have hi := n.slot i
  rw [e] at hi
  obtain ⟨vs, h1, h2, h3, h4, h5, h6⟩ := hi
  exact ⟨_, n.freezeG (d := .lst xs) (by rw [e]; rfl) h1 h2 (.lst h3) h4 h5 h6⟩
theorem Nv.freezeO (n : Nv b Fm F0 H0 F H σ γ) {i : Nat} {l : Addr} {d : Dt} (e : gat γ i = .obj l d) : ∃ F', Nv b Fm F0 H0 F' H σ (gset γ i (.val d)) ∧ Sub F F' := by
  have hi := n.slot i
  rw [e] at hi
  obtain ⟨u, h1, h2, h3, h4, h5, h6⟩ := hi
  exact ⟨_, n.freezeG (d := d) (by rw [e]; rfl) h1 h2 h3 h4 h5 h6⟩
/-- an own thing is changed -/
theorem Nv.wrG (n : Nv b Fm F0 H0 F H σ γ) {i : Nat} {l : Addr} {u u0 : HO} {s : Sl} (hu0 : H l = some u0) (nu0 : notTbl u0) (ne0 : notExt u0) (ea : (gat γ i).adr = some l) (h4 : F l = none) (h5 : H0 l = none) (h6 : b.bag ≠ some l) (hs : s.adr = some l) (r : SlOk b H0 F (upd H l u) σ[i]? s) : Nv b Fm F0 H0 F (upd H l u) σ (gset γ i s) := by
  have back : ∀ j a, (gat (gset γ i s) j).adr = some a → (gat γ j).adr = some a := fun j a hj => by
    by_cases z : j = i
    · subst z
      rcases gat_set γ (i := j) s with q | ⟨q, _⟩
      · rw [q, hs] at hj; rw [ea]; exact hj
      · rw [q] at hj; cases hj
    · rw [gat_set_ne _ _ z] at hj; exact hj
  refine ⟨n.ok0, n.fm, n.ext.wr h5 h4 h6 hu0 nu0 ne0, by rw [gset_len]; exact n.len, fun j => ?_, fun j k a hj hk => n.dis j k a (back j a hj) (back k a hk)⟩
  by_cases ej : j = i
  · subst ej
    rcases gat_set γ (i := j) s with q | ⟨q, _⟩
    · rw [q]; exact r
    · rw [q]; exact True.intro
  · rw [gat_set_ne _ _ ej]
    exact (n.slot j).wr fun a ha z => ej (n.dis j i a ha (by rw [ea, z]))
/-- an own list is changed -/
theorem Nv.wr (n : Nv b Fm F0 H0 F H σ γ) {i : Nat} {xs ys : List Dt} {l : Addr} {ws : List V} (e : gat γ i = .own l xs) (r : RepL b F ws ys) : Nv b Fm F0 H0 F (upd H l (.lst ws)) σ (gset γ i (.own l ys)) := by
  have hi := n.slot i
  rw [e] at hi
  obtain ⟨vs', h1, h2, h3, h4, h5, h6⟩ := hi
  exact n.wrG h2 .lst (fun _ z => by cases z) (by rw [e]; rfl) h4 h5 h6 rfl ⟨ws, h1, upd_same, r, h4, h5, h6⟩
theorem Nv.wrO (n : Nv b Fm F0 H0 F H σ γ) {i : Nat} {d d' : Dt} {l : Addr} {u : HO} (e : gat γ i = .obj l d) (r : RepO b F u d') : Nv b Fm F0 H0 F (upd H l u) σ (gset γ i (.obj l d')) := by
  have hi := n.slot i
  rw [e] at hi
  obtain ⟨u', h1, h2, h3, h4, h5, h6⟩ := hi
  exact n.wrG h2 h3.nt h3.ne (by rw [e]; rfl) h4 h5 h6 rfl ⟨u, h1, upd_same, r, h4, h5, h6⟩
end

/-! ### readings told by data -/
abbrev DT := Gm → (Dt → Prop) → Prop
abbrev DBt := Gm → (Bool → Prop) → Prop
abbrev DAt := Gm → (List Dt → Prop) → Prop
def DE (b : Bg) (te : TE) (T : DT) : Prop := ∀ {Fm F0 H0 F H : Hp} {σ : L2.St} {γ : Gm} (P : Dt → Prop), Nv b Fm F0 H0 F H σ γ → T γ P → ∀ Q : VK, (∀ v d F' H', Ext b F H F' H' → Rep b F' v d → P d → Q v H') → te σ H Q
def DB (b : Bg) (tt : TT) (T : DBt) : Prop := ∀ {Fm F0 H0 F H : Hp} {σ : L2.St} {γ : Gm} (P : Bool → Prop), Nv b Fm F0 H0 F H σ γ → T γ P → ∀ Q : Bool → Hp → Prop, (∀ c F' H', Ext b F H F' H' → P c → Q c H') → tt σ H Q
def DA (b : Bg) (ta : TA) (T : DAt) : Prop := ∀ {Fm F0 H0 F H : Hp} {σ : L2.St} {γ : Gm} (P : List Dt → Prop), Nv b Fm F0 H0 F H σ γ → T γ P → ∀ Q : List V → Hp → Prop, (∀ vs ds F' H', Ext b F H F' H' → RepL b F' vs ds → P ds → Q vs H') → ta σ H Q
/-- a new list, not yet taken for a value -/
def DLs (b : Bg) (te : TE) (T : DAt) : Prop := ∀ {Fm F0 H0 F H : Hp} {σ : L2.St} {γ : Gm} (P : List Dt → Prop), Nv b Fm F0 H0 F H σ γ → T γ P →
  ∀ Q : VK, (∀ p vs xs F' H', Ext b F H F' H' → H p = none → H' p = some (.lst vs) → F' p = none → RepL b F' vs xs → P xs → Q (.ref p) H') → te σ H Q
structure De where
  nx : Gm → Prop
  rt : Gm → Dt → Prop
  bk : Gm → Prop := fun _ => False
  ct : Gm → Prop := fun _ => False
abbrev DSt := De → Gm → Prop
structure EndsOk (b : Bg) (Fm F0 H0 : Hp) (D : Ends) (E : De) : Prop where
  nx : ∀ {F H : Hp} {σ : L2.St} {γ : Gm}, Nv b Fm F0 H0 F H σ γ → E.nx γ → D.nx σ H
  rt : ∀ {F H : Hp} {σ : L2.St} {γ : Gm} {v : V} {d : Dt}, Nv b Fm F0 H0 F H σ γ → Rep b F v d → E.rt γ d → D.rt v H
  bk : ∀ {F H : Hp} {σ : L2.St} {γ : Gm}, Nv b Fm F0 H0 F H σ γ → E.bk γ → D.bk σ H
  ct : ∀ {F H : Hp} {σ : L2.St} {γ : Gm}, Nv b Fm F0 H0 F H σ γ → E.ct γ → D.ct σ H
def DS (b : Bg) (ts : TS) (T : DSt) : Prop := ∀ {Fm F0 H0 F H : Hp} {σ : L2.St} {γ : Gm} (E : De), Nv b Fm F0 H0 F H σ γ → T E γ → ∀ D : Ends, EndsOk b Fm F0 H0 D E → ts D σ H
/-- a target of an assignment, the slots that it writes -/
def DG (b : Bg) (g : TG) (T : Dt → Gm → (Gm → Prop) → Prop) (js : List Nat) : Prop := ∀ {Fm F0 H0 F H : Hp} {σ : L2.St} {γ : Gm} (P : Gm → Prop) {v : V} {d : Dt}, Nv b Fm F0 H0 F H σ γ → Rep b F v d → T d γ P →
  ∀ Q : L2.St → Hp → Prop, (∀ σ' γ', Nv b Fm F0 H0 F H σ' γ' → σ'.length = σ.length → (∀ i, i ∉ js → σ'[i]? = σ[i]?) → P γ' → Q σ' H) → g v σ H Q
def DGs (b : Bg) (g : TGs) (T : List Dt → Gm → (Gm → Prop) → Prop) (js : List Nat) : Prop := ∀ {Fm F0 H0 F H : Hp} {σ : L2.St} {γ : Gm} (P : Gm → Prop) {vs : List V} {ds : List Dt}, Nv b Fm F0 H0 F H σ γ → RepL b F vs ds → T ds γ P →
  ∀ Q : L2.St → Hp → Prop, (∀ σ' γ', Nv b Fm F0 H0 F H σ' γ' → σ'.length = σ.length → (∀ i, i ∉ js → σ'[i]? = σ[i]?) → P γ' → Q σ' H) → g vs σ H Q
/-- what is walked: the items, one after another; Fx what stands still meanwhile -/
structure WalkD (b : Bg) (J : It) (Fx : Hp) (xs : List Dt) : Prop where
  ex : ∃ Y, Walk J xs.length (fun H => Sub Fx H) Y ∧ ∀ i H x H', i < xs.length → Y i H x H' → ∃ d, xs[i]? = some d ∧ ((H' = H ∧ Rep b Fx x d) ∨ ∃ T vs ds, x = .ref T ∧ H T = none ∧ H' = upd H T (.tup vs) ∧ RepL b Fx vs ds ∧ d = .tup ds)
def DI (b : Bg) (wi : TI) (T : DAt) : Prop := ∀ {Fm F0 H0 F H : Hp} {σ : L2.St} {γ : Gm} (P : List Dt → Prop), Nv b Fm F0 H0 F H σ γ → T γ P →
  ∀ R : It → Hp → Prop, (∀ J xs F' H', Ext b F H F' H' → WalkD b J F' xs → P xs → R J H') → wi σ H R

structure XE (X : Cx) (b : Bg) (e : Expr) (T : DT) : Prop where
  ex : ∃ te, PE X e te ∧ DE b te T
structure XL (X : Cx) (b : Bg) (e : Expr) (T : DAt) : Prop where
  ex : ∃ te, PE X e te ∧ DLs b te T
structure XT (X : Cx) (b : Bg) (e : Expr) (T : DBt) : Prop where
  ex : ∃ te, PT X e te ∧ DB b te T
structure XW (X : Cx) (b : Bg) (e : Expr) (T : DBt) : Prop where
  ex : ∃ te, PW X e te ∧ DB b te T
structure XA (X : Cx) (b : Bg) (es : List Expr) (T : DAt) : Prop where
  ex : ∃ te, PA X es te ∧ DA b te T
structure XKw (X : Cx) (b : Bg) (es : List Keyword) (T : DAt) : Prop where
  ex : ∃ te, PK X es te ∧ DA b te T
structure XG (X : Cx) (b : Bg) (e : Expr) (T : Dt → Gm → (Gm → Prop) → Prop) (js : List Nat) : Prop where
  ex : ∃ te, PG X e te ∧ DG b te T js
structure XGs (X : Cx) (b : Bg) (es : List Expr) (T : List Dt → Gm → (Gm → Prop) → Prop) (js : List Nat) : Prop where
  ex : ∃ te, PGs X es te ∧ DGs b te T js
structure XI (X : Cx) (b : Bg) (tg e : Expr) (T : DAt) : Prop where
  ex : ∃ te, PI X tg e te ∧ DI b te T
structure XTs (X : Cx) (b : Bg) (es : List Expr) (T : DBt) : Prop where
  ex : ∃ te, PTs X es te ∧ DB b te T
structure XS (X : Cx) (b : Bg) (st : Stmt) (T : DSt) : Prop where
  ex : ∃ te, PS X st te ∧ DS b te T
structure XSs (X : Cx) (b : Bg) (st : List Stmt) (T : DSt) : Prop where
  ex : ∃ te, PSs X st te ∧ DS b te T
end DL

namespace DL
open PySem PySem.Spec PyProof.Rows L2
section
variable {X : Cx} {b : Bg} {e e1 e2 e3 : Expr} {es : List Expr} {pos : Pos}
@[reducible] def nB : Bool → Bool
  | true => false
  | false => true
@[reducible] def oB : Bool → Bool → Bool
  | true, _ => true
  | false, y => y
@[reducible] def eB : Bool → Bool → Bool
  | true, y => y
  | false, y => nB y
theorem nB_eq (k : Bool) : (!k) = nB k := by cases k <;> rfl
theorem oB_eq (k l : Bool) : (k || l) = oB k l := by cases k <;> rfl
theorem eB_eq (k l : Bool) : (k == l) = eB k l := by cases k <;> cases l <;> rfl
/-! ### names, constants -/
@[reducible] def dVar (i : Nat) : DT := fun γ P => match gat γ i with | .val d => P d | _ => False
theorem de_var {i : Nat} : DE b (tVar i) (dVar i) := fun {Fm F0 H0 F H σ γ} P n h Q q => by
  unfold dVar at h
  have hi := n.slot i
  cases e : gat γ i with
  | un => rw [e] at h; exact h.elim
  | own l xs => rw [e] at h; exact h.elim
  | obj l d => rw [e] at h; exact h.elim
  | hid l d => rw [e] at h; exact h.elim
  | val d =>
    rw [e] at h hi
    obtain ⟨v, h1, h2⟩ := hi
    exact ⟨v, h1, q v d F H (Ext.refl n.ok) h2 h⟩
theorem xv (i : Nat) {x : Str} {pos : Pos} (hN : X.N[i]? = some x := by rfl) (hv : Vis X.env.scope x := by first | exact Or.inl rfl | exact Or.inr (Or.inl rfl) | exact Or.inr (Or.inr rfl)) (hd : (x == ("__debug__" : Str)) = false := by decide)
    (hcd : (x == ("__classdict__" : Str)) = false := by decide) : XE X b (.Name x pos) (dVar i) := ⟨_, pe_var hN hv hd hcd, de_var⟩
@[reducible] def dC (d : Dt) : DT := fun _ P => P d
theorem de_c {v : V} {d : Dt} (r : ∀ F, Rep b F v d) : DE b (tC v) (dC d) := fun P n h Q q => q v d _ _ (Ext.refl n.ok) (r _) h
theorem x_int {i j pos} : XE X b (.Constant (.int i) j pos) (dC (.int i)) := ⟨_, pe_int, de_c fun _ => .int i⟩
theorem x_bl {i j pos} : XE X b (.Constant (.bool i) j pos) (dC (.bl i)) := ⟨_, pe_bl, de_c fun _ => .bl i⟩
theorem x_non {j pos} : XE X b (.Constant .none j pos) (dC .non) := ⟨_, pe_non, de_c fun _ => .non⟩
theorem x_str {i j pos} : XE X b (.Constant (.str i) j pos) (dC (.str i)) := ⟨_, pe_str, de_c fun _ => .str i⟩
theorem x_gint {x : Str} {i : Int} {t : Tok} (hg : Gl X x) (hm : X.mg x = some (.int i t)) (hd : (x == ("__debug__" : Str)) = false := by decide) : XE X b (.Name x pos) (dC (.int i)) := ⟨_, pe_glob hg hm (v := .int i) ⟨t, rfl⟩ hd, de_c fun _ => .int i⟩
theorem x_gstr {x : Str} {i : Str} {t : Tok} (hg : Gl X x) (hm : X.mg x = some (.str i t)) (hd : (x == ("__debug__" : Str)) = false := by decide) : XE X b (.Name x pos) (dC (.str i)) := ⟨_, pe_glob hg hm (v := .str i) ⟨t, rfl⟩ hd, de_c fun _ => .str i⟩

/-! ### two-place operations by values -/
/-- r on what x and y hold gives, wherever, something P of which T tells -/
def D2 (b : Bg) (r : R2) (T : Dt → Dt → (Dt → Prop) → Prop) : Prop := ∀ {F H : Hp} {x y : V} {d e : Dt} (P : Dt → Prop), Ok b F H → Rep b F x d → Rep b F y e → T d e P → ∀ Q : VK, (∀ v d F' H', Ext b F H F' H' → Rep b F' v d → P d → Q v H') → r x y H Q
@[reducible] def d2 (T : Dt → Dt → (Dt → Prop) → Prop) (Ta Tb : DT) : DT := fun γ P => Ta γ fun x => Tb γ fun y => T x y P
theorem de_op {r : R2} {ta tb : TE} {Ta Tb : DT} {T} (h : D2 b r T) (ha : DE b ta Ta) (hb : DE b tb Tb) : DE b (tOp r ta tb) (d2 T Ta Tb) := fun P n t Q q =>
  ha _ n t _ fun v d F1 H1 x1 r1 t1 => hb _ (n.to x1) t1 _ fun w e F2 H2 x2 r2 t2 => h P (x2.ok) (x2.mono r1) r2 t2 Q fun u f F3 H3 x3 r3 p => q u f F3 H3 ((x1.trans x2).trans x3) r3 p
theorem d2_I0 {g : Int → Int → V} {gD : Int → Int → Dt} (h : ∀ i j F, Rep b F (g i j) (gD i j)) : D2 b (rI0 g) (fun x y P => match x, y with | .int i, .int j => P (gD i j) | _, _ => False) := fun {F H x y d e} P k r1 r2 t Q q => by
  cases r1 <;> cases r2 <;> first | exact ⟨_, _, rfl, rfl, q _ _ F H (Ext.refl k) (h _ _ F) t⟩ | exact t.elim
theorem d2_I {C : Int → Int → Prop} {g : Int → Int → V} {gD : Int → Int → Dt} (h : ∀ i j F, Rep b F (g i j) (gD i j)) : D2 b (rI C g) (fun x y P => match x, y with | .int i, .int j => C i j ∧ P (gD i j) | _, _ => False) := fun {F H x y d e} P k r1 r2 t Q q => by
  cases r1 <;> cases r2 <;> first | exact ⟨_, _, rfl, rfl, t.1, q _ _ F H (Ext.refl k) (h _ _ F) t.2⟩ | exact t.elim
@[reducible] def vInt (f : Int → Int → Int) (x y : Dt) (P : Dt → Prop) : Prop := match x, y with | .int i, .int j => P (.int (f i j)) | _, _ => False
@[reducible] def vIntC (C : Int → Int → Prop) (f : Int → Int → Int) (x y : Dt) (P : Dt → Prop) : Prop := match x, y with | .int i, .int j => C i j ∧ P (.int (f i j)) | _, _ => False
@[reducible] def vBl (f : Int → Int → Bool) (x y : Dt) (P : Dt → Prop) : Prop := match x, y with | .int i, .int j => P (.bl (f i j)) | _, _ => False
theorem x_sub (ha : XE X b e1 Ta) (hb : XE X b e2 Tb) : XE X b (.BinOp e1 .Sub e2 pos) (d2 (vInt fun i j => i - j) Ta Tb) := by
  obtain ⟨_, h1, h2⟩ := ha; obtain ⟨_, g1, g2⟩ := hb
  exact ⟨_, pe_op op_sub h1 g1, de_op (d2_I0 fun i j _ => .int _) h2 g2⟩
theorem x_addI (ha : XE X b e1 Ta) (hb : XE X b e2 Tb) : XE X b (.BinOp e1 .Add e2 pos) (d2 (vInt fun i j => i + j) Ta Tb) := by
  obtain ⟨_, h1, h2⟩ := ha; obtain ⟨_, g1, g2⟩ := hb
  exact ⟨_, pe_op op_add h1 g1, de_op (d2_I0 fun i j _ => .int _) h2 g2⟩
theorem x_mul (ha : XE X b e1 Ta) (hb : XE X b e2 Tb) : XE X b (.BinOp e1 .Mult e2 pos) (d2 (vIntC CMul fun i j => i * j) Ta Tb) := by
  obtain ⟨_, h1, h2⟩ := ha; obtain ⟨_, g1, g2⟩ := hb
  exact ⟨_, pe_op op_mul h1 g1, de_op (d2_I fun i j _ => .int _) h2 g2⟩
theorem x_mod (ha : XE X b e1 Ta) (hb : XE X b e2 Tb) : XE X b (.BinOp e1 .Mod e2 pos) (d2 (vIntC (fun _ j => 0 < j) fun i j => i % j) Ta Tb) := by
  obtain ⟨_, h1, h2⟩ := ha; obtain ⟨_, g1, g2⟩ := hb
  exact ⟨_, pe_op op_mod h1 g1, de_op (d2_I fun i j _ => .int _) h2 g2⟩
theorem x_fdiv (ha : XE X b e1 Ta) (hb : XE X b e2 Tb) : XE X b (.BinOp e1 .FloorDiv e2 pos) (d2 (vIntC CDiv fun i j => i / j) Ta Tb) := by
  obtain ⟨_, h1, h2⟩ := ha; obtain ⟨_, g1, g2⟩ := hb
  exact ⟨_, pe_op op_fdiv h1 g1, de_op (d2_I fun i j _ => .int _) h2 g2⟩
theorem x_pow (ha : XE X b e1 Ta) (hb : XE X b e2 Tb) : XE X b (.BinOp e1 .Pow e2 pos) (d2 (vIntC CPow fun i j => i ^ j.toNat) Ta Tb) := by
  obtain ⟨_, h1, h2⟩ := ha; obtain ⟨_, g1, g2⟩ := hb
  exact ⟨_, pe_op op_pow h1 g1, de_op (d2_I fun i j _ => .int _) h2 g2⟩
theorem x_lt (ha : XE X b e1 Ta) (hb : XE X b e2 Tb) : XE X b (.Compare e1 [.Lt] [e2] pos) (d2 (vBl fun i j => decide (i < j)) Ta Tb) := by
  obtain ⟨_, h1, h2⟩ := ha; obtain ⟨_, g1, g2⟩ := hb
  exact ⟨_, pe_cmpR op_lt h1 g1 (nomark _), de_op (d2_I0 fun i j _ => .bl _) h2 g2⟩
theorem x_le (ha : XE X b e1 Ta) (hb : XE X b e2 Tb) : XE X b (.Compare e1 [.LtE] [e2] pos) (d2 (vBl fun i j => decide (i ≤ j)) Ta Tb) := by
  obtain ⟨_, h1, h2⟩ := ha; obtain ⟨_, g1, g2⟩ := hb
  exact ⟨_, pe_cmpR op_le h1 g1 (nomark _), de_op (d2_I0 fun i j _ => .bl _) h2 g2⟩
theorem x_gt (ha : XE X b e1 Ta) (hb : XE X b e2 Tb) : XE X b (.Compare e1 [.Gt] [e2] pos) (d2 (vBl fun i j => decide (j < i)) Ta Tb) := by
  obtain ⟨_, h1, h2⟩ := ha; obtain ⟨_, g1, g2⟩ := hb
  exact ⟨_, pe_cmpR op_gt h1 g1 (nomark _), de_op (d2_I0 fun i j _ => .bl _) h2 g2⟩
theorem x_ge (ha : XE X b e1 Ta) (hb : XE X b e2 Tb) : XE X b (.Compare e1 [.GtE] [e2] pos) (d2 (vBl fun i j => decide (j ≤ i)) Ta Tb) := by
  obtain ⟨_, h1, h2⟩ := ha; obtain ⟨_, g1, g2⟩ := hb
  exact ⟨_, pe_cmpR op_ge h1 g1 (nomark _), de_op (d2_I0 fun i j _ => .bl _) h2 g2⟩
/-- a <= b <= c over ints -/
def dChI (p p' : Int → Int → Bool) (Ta Tb Tc : DT) : DT := fun γ P => Ta γ fun x => Tb γ fun y => match x, y with | .int i, .int j => (match p i j with | true => (Tc γ fun z => (match z with | .int k => P (.bl (p' j k)) | _ => False)) | false => P (.bl false)) | _, _ => False
theorem de_chain {p p' : Int → Int → Bool} {ta tb tc : TE} {Ta Tb Tc : DT} (ha : DE b ta Ta) (hb : DE b tb Tb) (hc : DE b tc Tc) : DE b (tChain (rI0 fun i j => .bl (p i j)) (rI0 fun i j => .bl (p' i j)) ta tb tc) (dChI p p' Ta Tb Tc) := fun P n t Q q =>
  ha _ n t _ fun v d F1 H1 x1 r1 t1 => hb _ (n.to x1) t1 _ fun w e F2 H2 x2 r2 t2 => by
    cases r1 <;> cases r2 <;> first | exact t2.elim | skip
    refine ⟨_, _, rfl, rfl, _, rfl, ?_⟩
    rename_i i j
    cases hp : p i j with
    | true =>
      simp only [hp, if_true] at t2 ⊢
      exact hc _ (n.to (x1.trans x2)) t2 _ fun u f F3 H3 x3 r3 t3 => by
        cases r3 <;> first | exact t3.elim | skip
        exact ⟨_, _, rfl, rfl, q _ _ F3 H3 ((x1.trans x2).trans x3) (.bl _) t3⟩
    | false =>
      simp only [hp] at t2 ⊢
      exact q _ _ F2 H2 (x1.trans x2) (.bl _) t2
theorem x_chLeLe (ha : XE X b e1 Ta) (hb : XE X b e2 Tb) (hc : XE X b e3 Tc) (hm : lastMarks [.LtE, .LtE] [e2, e3] = false := by with_unfolding_all rfl) : XE X b (.Compare e1 [.LtE, .LtE] [e2, e3] pos) (dChI (fun i j => decide (i ≤ j)) (fun i j => decide (i ≤ j)) Ta Tb Tc) := by
  obtain ⟨_, h1, h2⟩ := ha; obtain ⟨_, g1, g2⟩ := hb; obtain ⟨_, f1, f2⟩ := hc
  exact ⟨_, pe_chain op_le op_le h1 g1 f1 hm, de_chain h2 g2 f2⟩

/-! ### is None, is False -/
@[reducible] def isNo : Dt → Bool
  | .non => true
  | _ => false
@[reducible] def dIsN (Ta : DT) : DT := fun γ P => Ta γ fun x => P (.bl (isNo x))
theorem rep_non {F : Hp} {v : V} {d : Dt} (r : Rep b F v d) : decide (v = .non) = isNo d := by
  cases r <;> first | rfl | (apply decide_eq_false; intro z; cases z)
theorem x_isN {j p2} (ha : XE X b e1 Ta) : XE X b (.Compare e1 [.Is] [.Constant .none j p2] pos) (dIsN Ta) := by
  obtain ⟨_, h1, h2⟩ := ha
  exact ⟨_, pe_cmp (pc_isN h1) (by rfl), fun P n t Q q => h2 _ n t _ fun v d F1 H1 x1 r1 t1 => q _ _ F1 H1 x1 (by rw [rep_non r1]; exact .bl _) t1⟩
@[reducible] def dNotN (Ta : DT) : DT := fun γ P => Ta γ fun x => P (.bl (nB (isNo x)))
theorem x_notN {j p2} (ha : XE X b e1 Ta) : XE X b (.Compare e1 [.IsNot] [.Constant .none j p2] pos) (dNotN Ta) := by
  obtain ⟨_, h1, h2⟩ := ha
  refine ⟨_, pe_cmp (pc_notN h1) (by rfl), fun P n t Q q => h2 _ n t _ fun v d F1 H1 x1 r1 t1 => q _ _ F1 H1 x1 (by rw [rep_non r1, nB_eq]; exact .bl _) t1⟩
@[reducible] def vIsB (neg : Bool) (x y : Dt) (P : Dt → Prop) : Prop := match x, y with | .bl i, .bl j => P (.bl (match neg with | true => nB (eB i j) | false => eB i j)) | _, _ => False
theorem dec_eB (i j : Bool) : decide (i = j) = eB i j := by cases i <;> cases j <;> rfl
theorem d2_isB : D2 b rIsB (vIsB false) := fun {F H x y d e} P k r1 r2 t Q q => by
  cases r1 <;> cases r2 <;> first | exact t.elim | skip
  exact ⟨_, _, rfl, rfl, q _ _ F H (Ext.refl k) (by rw [dec_eB]; exact .bl _) t⟩
theorem d2_notB : D2 b rNotB (vIsB true) := fun {F H x y d e} P k r1 r2 t Q q => by
  cases r1 <;> cases r2 <;> first | exact t.elim | skip
  exact ⟨_, _, rfl, rfl, q _ _ F H (Ext.refl k) (by rw [dec_eB, nB_eq]; exact .bl _) t⟩
theorem x_isB (ha : XE X b e1 Ta) (hb : XE X b e2 Tb) : XE X b (.Compare e1 [.Is] [e2] pos) (d2 (vIsB false) Ta Tb) := by
  obtain ⟨_, h1, h2⟩ := ha; obtain ⟨_, g1, g2⟩ := hb
  exact ⟨_, pe_cmpR op_isBl h1 g1 (nomark _), de_op d2_isB h2 g2⟩
theorem x_notB (ha : XE X b e1 Ta) (hb : XE X b e2 Tb) : XE X b (.Compare e1 [.IsNot] [e2] pos) (d2 (vIsB true) Ta Tb) := by
  obtain ⟨_, h1, h2⟩ := ha; obtain ⟨_, g1, g2⟩ := hb
  exact ⟨_, pe_cmpR op_notBl h1 g1 (nomark _), de_op d2_notB h2 g2⟩

/-! ### == and != of data -/
mutual
def plain : Dt → Bool
  | .lst xs => plainL xs
  | .tup xs => plainL xs
  | .ins _ _ => false
  | .dT _ => false
  | .dK _ => false
  | .ptr _ => false
  | .bag => false
  | .exc _ _ => false
  | .lam _ _ => false
  | .clo _ _ => false
  | _ => true
def plainL : List Dt → Bool
  | [] => true
  | x :: xs => plain x && plainL xs
end
mutual
def py : Dt → PyData
  | .non => .none
  | .bl k => .bool k
  | .int i => .int i
  | .str x => .str x
  | .lst xs => .list (pyL xs)
  | .tup xs => .tuple (pyL xs)
  | _ => .none
def pyL : List Dt → List PyData
  | [] => []
  | x :: xs => py x :: pyL xs
end
section
variable {F H : Hp} {K : PySem.W.Frag}
mutual
theorem rep_dp (s : Sub F H) : ∀ {d : Dt} {v : V}, Rep b F v d → plain d = true → Dp K H v (py d)
  | .non, _, h, _ => by cases h; exact .non
  | .bl _, _, h, _ => by cases h; exact .bl _
  | .int _, _, h, _ => by cases h; exact .int _
  | .str _, _, h, _ => by cases h; exact .str _
  | .lst xs, _, h, p => by
    cases h with
    | lst e r => exact .lst (SqL.of (s _ _ e)) (rep_dpL s r p)
  | .tup xs, _, h, p => by
    cases h with
    | tup e r => exact .tup (SqT.of (s _ _ e)) (rep_dpL s r p)
  | .ins C fs, _, h, p => by cases p
  | .dT kvs, _, h, p => by cases p
  | .dK kvs, _, h, p => by cases p
  | .ptr _, _, h, p => by cases p
  | .bag, _, h, p => by cases p
  | .exc _ _, _, h, p => by cases p
  | .lam _ _, _, h, p => by cases p
  | .clo _ _, _, h, p => by cases p
theorem rep_dpL (s : Sub F H) : ∀ {ds : List Dt} {vs : List V}, RepL b F vs ds → plainL ds = true → DpAll K H vs (pyL ds)
  | [], _, h, _ => by cases h; exact .nil
  | d :: ds, _, h, p => by
    cases h with
    | cons r t =>
      have p2 : (plain d && plainL ds) = true := p
      rw [Bool.and_eq_true] at p2
      exact .cons (rep_dp s r p2.1) (rep_dpL s t p2.2)
end
end
def eqOk (x : Dt) : Bool := plain x && SeqAt.shaped (py x)
@[reducible] def xB : Bool → Bool → Bool
  | true, k => nB k
  | false, k => k
@[reducible] def vEq (neg : Bool) (x y : Dt) (P : Dt → Prop) : Prop := match x, y with
  | .bl i, .bl j => P (.bl (xB neg (eB i j)))
  | .int i, .int j => P (.bl (xB neg (decide (i = j))))
  | .str i, .str j => P (.bl (xB neg (decide (i = j))))
  | x, y => eqOk x = true ∧ eqOk y = true ∧ P (.bl (xB neg (PyData.eqv (py x) (py y))))
theorem dV_int (i j : Int) : decide (V.int i = V.int j) = decide (i = j) := by
  by_cases h : i = j
  · subst h; simp
  · rw [decide_eq_false h, decide_eq_false fun z => h (V.int.inj z)]
theorem dV_str (i j : Str) : decide (V.str i = V.str j) = decide (i = j) := by
  by_cases h : i = j
  · subst h; simp
  · rw [decide_eq_false h, decide_eq_false fun z => h (V.str.inj z)]
theorem dV_bl (i j : Bool) : decide (V.bl i = V.bl j) = eB i j := by cases i <;> cases j <;> rfl
theorem vEq_cases {F : Hp} {neg : Bool} {x y : V} {d e : Dt} {P : Dt → Prop} (r1 : Rep b F x d) (r2 : Rep b F y e) (t : vEq neg d e P) :
    (scal x y = true ∧ P (.bl (xB neg (decide (x = y))))) ∨ (eqOk d = true ∧ eqOk e = true ∧ P (.bl (xB neg (PyData.eqv (py d) (py e))))) := by
  cases r1 <;> cases r2 <;> first | exact .inr t | exact .inl ⟨rfl, by rw [dV_int]; exact t⟩ | exact .inl ⟨rfl, by rw [dV_str]; exact t⟩ | exact .inl ⟨rfl, by rw [dV_bl]; exact t⟩
theorem d2_eqD {K} : D2 b (fun x y H Q => rEq x y H Q ∨ rEqD K x y H Q) (vEq false) := fun {F H x y d e} P k r1 r2 t Q q => by
  rcases vEq_cases r1 r2 t with ⟨t1, t2⟩ | ⟨t1, t2, t3⟩
  · exact .inl ⟨t1, q _ _ F H (Ext.refl k) (.bl _) t2⟩
  · unfold eqOk at t1 t2
    rw [Bool.and_eq_true] at t1 t2
    exact .inr ⟨_, _, rep_dp k.1 r1 t1.1, rep_dp k.1 r2 t2.1, t1.2, t2.2, q _ _ F H (Ext.refl k) (.bl _) t3⟩
theorem d2_neD {K} : D2 b (fun x y H Q => rNe x y H Q ∨ rNeD K x y H Q) (vEq true) := fun {F H x y d e} P k r1 r2 t Q q => by
  rcases vEq_cases r1 r2 t with ⟨t1, t2⟩ | ⟨t1, t2, t3⟩
  · exact .inl ⟨t1, q _ _ F H (Ext.refl k) (by rw [nB_eq]; exact .bl _) t2⟩
  · unfold eqOk at t1 t2
    rw [Bool.and_eq_true] at t1 t2
    exact .inr ⟨_, _, rep_dp k.1 r1 t1.1, rep_dp k.1 r2 t2.1, t1.2, t2.2, q _ _ F H (Ext.refl k) (by rw [nB_eq]; exact .bl _) t3⟩
theorem x_eq (hu : X.A.units + 64 < cLine) (ha : XE X b e1 Ta) (hb : XE X b e2 Tb) : XE X b (.Compare e1 [.Eq] [e2] pos) (d2 (vEq false) Ta Tb) := by
  obtain ⟨_, h1, h2⟩ := ha; obtain ⟨_, g1, g2⟩ := hb
  exact ⟨_, pe_cmpR (op_eq.or (op_eqD hu)) h1 g1 (nomark _), de_op d2_eqD h2 g2⟩
theorem x_ne (hu : X.A.units + 64 < cLine) (ha : XE X b e1 Ta) (hb : XE X b e2 Tb) : XE X b (.Compare e1 [.NotEq] [e2] pos) (d2 (vEq true) Ta Tb) := by
  obtain ⟨_, h1, h2⟩ := ha; obtain ⟨_, g1, g2⟩ := hb
  exact ⟨_, pe_cmpR (op_ne.or (op_neD hu)) h1 g1 (nomark _), de_op d2_neD h2 g2⟩

/-! ### membership -/
def flatD : Dt → Bool
  | .non => true | .bl _ => true | .int _ => true | .str _ => true | _ => false
theorem flat_of {F : Hp} {v : V} {d : Dt} (r : Rep b F v d) : flatD d = true → flatV v = true := by
  cases r <;> intro h <;> first | rfl | cases h
theorem flat_all {F : Hp} : ∀ {ds : List Dt} {vs : List V}, RepL b F vs ds → ds.all flatD = true → vs.all flatV = true
  | [], _, h, _ => by cases h; rfl
  | d :: ds, _, h, p => by
    cases h with
    | cons r t =>
      rw [List.all_cons, Bool.and_eq_true] at p ⊢
      exact ⟨flat_of r p.1, flat_all t p.2⟩
def dv : Dt → V
  | .bl k => .bl k | .int i => .int i | .str x => .str x | _ => .non
theorem dv_of {F : Hp} {v : V} {d : Dt} (r : Rep b F v d) (f : flatD d = true) : v = dv d := by
  cases r <;> first | rfl | cases f
def inD (x : Dt) (xs : List Dt) : Bool := xs.any fun y => eqV (dv y) (dv x)
theorem inV_of {F : Hp} {v : V} {d : Dt} (r : Rep b F v d) (f : flatD d = true) : ∀ {ds : List Dt} {vs : List V}, RepL b F vs ds → ds.all flatD = true → inV v vs = inD d ds
  | [], _, h, _ => by cases h; rfl
  | z :: ds, _, h, p => by
    cases h with
    | cons r2 t =>
      rw [List.all_cons, Bool.and_eq_true] at p
      show (eqV _ v || inV v _) = (eqV (dv z) (dv d) || inD d ds)
      rw [inV_of r f t p.2, dv_of r2 p.1, dv_of r f]
@[reducible] def vIn (neg : Bool) (x y : Dt) (P : Dt → Prop) : Prop := match y with
  | .lst xs => flatD x = true ∧ xs.all flatD = true ∧ P (.bl (match neg with | true => nB (inD x xs) | false => inD x xs))
  | .tup xs => flatD x = true ∧ xs.all flatD = true ∧ P (.bl (match neg with | true => nB (inD x xs) | false => inD x xs))
  | _ => False
theorem d2_in {K} {neg : Bool} : D2 b (rIn K neg) (vIn neg) := fun {F H x y d e} P k r1 r2 t Q q => by
  cases r2 with
  | lst h r =>
    obtain ⟨t1, t2, t3⟩ := t
    refine ⟨_, _, rfl, .inl (SqL.of (k.1 _ _ h)), flat_of r1 t1, flat_all r t2, ?_⟩
    rw [inV_of r1 t1 r t2]
    refine q _ _ F H (Ext.refl k) ?_ t3
    cases neg with
    | true =>
      show Rep b F (.bl (!inD _ _)) (.bl (nB (inD _ _)))
      rw [nB_eq]
      exact .bl _
    | false => exact .bl _
  | tup h r =>
    obtain ⟨t1, t2, t3⟩ := t
    refine ⟨_, _, rfl, .inr (SqT.of (k.1 _ _ h)), flat_of r1 t1, flat_all r t2, ?_⟩
    rw [inV_of r1 t1 r t2]
    refine q _ _ F H (Ext.refl k) ?_ t3
    cases neg with
    | true =>
      show Rep b F (.bl (!inD _ _)) (.bl (nB (inD _ _)))
      rw [nB_eq]
      exact .bl _
    | false => exact .bl _
  | _ => exact t.elim
theorem x_in (ha : XE X b e1 Ta) (hb : XE X b e2 Tb) (hm : behindInMarks .In e2 = false := by rfl) : XE X b (.Compare e1 [.In] [e2] pos) (d2 (vIn false) Ta Tb) := by
  obtain ⟨_, h1, h2⟩ := ha; obtain ⟨_, g1, g2⟩ := hb
  exact ⟨_, pe_cmpR op_in_seq h1 g1 hm, de_op d2_in h2 g2⟩
theorem x_notIn (ha : XE X b e1 Ta) (hb : XE X b e2 Tb) (hm : behindInMarks .NotIn e2 = false := by rfl) : XE X b (.Compare e1 [.NotIn] [e2] pos) (d2 (vIn true) Ta Tb) := by
  obtain ⟨_, h1, h2⟩ := ha; obtain ⟨_, g1, g2⟩ := hb
  exact ⟨_, pe_cmpR op_notIn_seq h1 g1 hm, de_op d2_in h2 g2⟩
/-- one sign in a text -/
@[reducible] def vInS (x y : Dt) (P : Dt → Prop) : Prop := match x, y with
  | .str u, .str z => ∃ c, u = ⟨#[c]⟩ ∧ P (.bl (decide (c ∈ z.cps.toList)))
  | _, _ => False
theorem x_inS (ha : XE X b e1 Ta) (hb : XE X b e2 Tb) (hm : behindInMarks .In e2 = false := by rfl) : XE X b (.Compare e1 [.In] [e2] pos) (d2 vInS Ta Tb) := by
  obtain ⟨_, h1, h2⟩ := ha; obtain ⟨_, g1, g2⟩ := hb
  refine ⟨_, pe_cmpR op_in_sign h1 g1 hm, de_op (fun {F H x y d e} P k r1 r2 t Q q => ?_) h2 g2⟩
  cases r1 <;> cases r2 <;> first | exact t.elim | skip
  obtain ⟨c, rfl, t⟩ := t
  exact ⟨_, _, rfl, rfl, q _ _ F H (Ext.refl k) (.bl _) t⟩

/-! ### and, or, not, if -/
def dAnd (Ta Tb : DT) : DT := fun γ P => Ta γ fun x => match x with | .bl true => Tb γ P | .bl false => P (.bl false) | _ => False
def dOr (Ta Tb : DT) : DT := fun γ P => Ta γ fun x => match x with | .bl false => Tb γ P | .bl true => P (.bl true) | _ => False
@[reducible] def dNot (Ta : DT) : DT := fun γ P => Ta γ fun x => match x with | .bl k => P (.bl (nB k)) | _ => False
theorem x_and {r : List Expr} (ha : XE X b e1 Ta) (hb : XE X b (.BoolOp .And (e2 :: r) pos) Tb) : XE X b (.BoolOp .And (e1 :: e2 :: r) pos) (dAnd Ta Tb) := by
  obtain ⟨_, h1, h2⟩ := ha; obtain ⟨_, g1, g2⟩ := hb
  refine ⟨_, pe_and h1 g1, fun P n t Q q => h2 _ n t _ fun v d F1 H1 x1 r1 t1 => ?_⟩
  cases r1 <;> first | exact t1.elim | skip
  rename_i k
  refine ⟨k, rfl, ?_⟩
  cases k with
  | true => exact iteT (g2 _ (n.to x1) t1 _ fun u f F3 H3 x3 r3 p => q u f F3 H3 (x1.trans x3) r3 p)
  | false => exact iteF (q _ _ F1 H1 x1 (.bl _) t1)
theorem x_or {r : List Expr} (ha : XE X b e1 Ta) (hb : XE X b (.BoolOp .Or (e2 :: r) pos) Tb) : XE X b (.BoolOp .Or (e1 :: e2 :: r) pos) (dOr Ta Tb) := by
  obtain ⟨_, h1, h2⟩ := ha; obtain ⟨_, g1, g2⟩ := hb
  refine ⟨_, pe_or h1 g1, fun P n t Q q => h2 _ n t _ fun v d F1 H1 x1 r1 t1 => ?_⟩
  cases r1 <;> first | exact t1.elim | skip
  rename_i k
  refine ⟨k, rfl, ?_⟩
  cases k with
  | false => exact iteF (g2 _ (n.to x1) t1 _ fun u f F3 H3 x3 r3 p => q u f F3 H3 (x1.trans x3) r3 p)
  | true => exact iteT (q _ _ F1 H1 x1 (.bl _) t1)
theorem x_one {op} (ha : XE X b e Ta) : XE X b (.BoolOp op [e] pos) Ta := by
  obtain ⟨_, h1, h2⟩ := ha
  exact ⟨_, pe_one h1, h2⟩
theorem x_not (ha : XE X b e Ta) : XE X b (.UnaryOp .Not e pos) (dNot Ta) := by
  obtain ⟨_, h1, h2⟩ := ha
  refine ⟨_, pe_not h1, fun P n t Q q => h2 _ n t _ fun v d F1 H1 x1 r1 t1 => ?_⟩
  cases r1 <;> first | exact t1.elim | skip
  exact ⟨_, rfl, q _ _ F1 H1 x1 (by rw [nB_eq]; exact .bl _) t1⟩
@[reducible] def dNeg (Ta : DT) : DT := fun γ P => Ta γ fun x => match x with | .int k => P (.int (-k)) | _ => False
theorem x_neg (ha : XE X b e Ta) : XE X b (.UnaryOp .USub e pos) (dNeg Ta) := by
  obtain ⟨_, h1, h2⟩ := ha
  refine ⟨_, pe_un un_neg h1, fun P n t Q q => h2 _ n t _ fun v d F1 H1 x1 r1 t1 => ?_⟩
  cases r1 <;> first | exact t1.elim | skip
  exact ⟨_, rfl, q _ _ F1 H1 x1 (.int _) t1⟩
/-! tests -/
@[reducible] def tB1 (Ta : DT) : DBt := fun γ P => Ta γ fun x => match x with | .bl k => P k | _ => False
theorem db_val {te : TE} {Ta : DT} (h : DE b te Ta) : DB b (tB te) (tB1 Ta) := fun P n t Q q => h _ n t _ fun v d F1 H1 x1 r1 t1 => by
  cases r1 <;> first | exact t1.elim | skip
  exact ⟨_, rfl, q _ F1 H1 x1 t1⟩
theorem t_val (ha : XE X b e Ta) (he : ∀ whole, isTrue e X.env whole = (do let v ← whole; standAt e.pos; holding [v] (truthy v)) := by intro _; rfl) : XT X b e (tB1 Ta) := by
  obtain ⟨_, h1, h2⟩ := ha
  exact ⟨_, pt_val h1 he, db_val h2⟩
@[reducible] def bAnd (A B : DBt) : DBt := fun γ P => A γ fun c => (match c with | true => B γ P | false => P false)
@[reducible] def bOr (A B : DBt) : DBt := fun γ P => A γ fun c => (match c with | true => P true | false => B γ P)
@[reducible] def bNot (A : DBt) : DBt := fun γ P => A γ fun c => P (nB c)
theorem t_not (ha : XT X b e A) : XT X b (.UnaryOp .Not e pos) (bNot A) := by
  obtain ⟨_, h1, h2⟩ := ha
  exact ⟨_, pt_not h1, fun P n t Q q => h2 _ n t _ fun c F1 H1 x1 t1 => by
    rw [nB_eq]
    exact q _ F1 H1 x1 t1⟩
theorem w_and1 (ha : XT X b e A) : XW X b (.BoolOp .And [e] pos) A := by
  obtain ⟨_, h1, h2⟩ := ha
  exact ⟨_, pw_and1 h1, h2⟩
theorem w_or1 (ha : XT X b e A) : XW X b (.BoolOp .Or [e] pos) A := by
  obtain ⟨_, h1, h2⟩ := ha
  exact ⟨_, pw_or1 h1, h2⟩
theorem w_and {r : List Expr} (ha : XT X b e1 A) (hb : XW X b (.BoolOp .And (e2 :: r) pos) B) : XW X b (.BoolOp .And (e1 :: e2 :: r) pos) (bAnd A B) := by
  obtain ⟨_, h1, h2⟩ := ha; obtain ⟨_, g1, g2⟩ := hb
  refine ⟨_, pw_and h1 g1, fun P n t Q q => h2 _ n t _ fun c F1 H1 x1 t1 => ?_⟩
  cases c with
  | true =>
    exact iteT (g2 _ (n.to x1) t1 _ fun f F3 H3 x3 p => q f F3 H3 (x1.trans x3) p)
  | false =>
    exact iteF (q _ F1 H1 x1 t1)
theorem w_or {r : List Expr} (ha : XT X b e1 A) (hb : XW X b (.BoolOp .Or (e2 :: r) pos) B) : XW X b (.BoolOp .Or (e1 :: e2 :: r) pos) (bOr A B) := by
  obtain ⟨_, h1, h2⟩ := ha; obtain ⟨_, g1, g2⟩ := hb
  refine ⟨_, pw_or h1 g1, fun P n t Q q => h2 _ n t _ fun c F1 H1 x1 t1 => ?_⟩
  cases c with
  | false =>
    exact iteF (g2 _ (n.to x1) t1 _ fun f F3 H3 x3 p => q f F3 H3 (x1.trans x3) p)
  | true =>
    exact iteT (q _ F1 H1 x1 t1)
theorem t_w (ha : XW X b e A) : XT X b e A := by
  obtain ⟨_, h1, h2⟩ := ha
  exact ⟨_, h1.pt, h2⟩
/-- any value, by its truth -/
@[reducible] def vTru (x : Dt) (P : Bool → Prop) : Prop := match x with
  | .non => P false
  | .bl k => P k
  | .int i => P (i != 0)
  | .str y => y.length ≤ 100000 ∧ P ((y.length : Int) != 0)
  | .lst xs => P (!xs.isEmpty)
  | .tup xs => P (!xs.isEmpty)
  | _ => False
theorem isEmpty_rep {F : Hp} {vs : List V} {xs : List Dt} (r : RepL b F vs xs) : vs.isEmpty = xs.isEmpty := by
  cases r <;> rfl
theorem tru_of {F H : Hp} {K : PySem.W.Frag} {v : V} {d : Dt} {P : Bool → Prop} (s : Sub F H) (r : Rep b F v d) (t : vTru d P) : ∃ k, TruV K v H k ∧ P k := by
  cases r with
  | non => exact ⟨_, rfl, t⟩
  | bl k => exact ⟨_, rfl, t⟩
  | int i => exact ⟨_, rfl, t⟩
  | str x => exact ⟨_, ⟨Nat.le_trans t.1 (by decide), rfl⟩, t.2⟩
  | lst e r => exact ⟨_, .inl ⟨_, SqL.of (s _ _ e), rfl⟩, by rw [isEmpty_rep r]; exact t⟩
  | tup e r => exact ⟨_, .inr (.inl ⟨_, SqT.of (s _ _ e), rfl⟩), by rw [isEmpty_rep r]; exact t⟩
  | ins e r => exact t.elim
  | dT e r => exact t.elim
  | dK e r => exact t.elim
  | ptr _ => exact t.elim
  | bag e => exact t.elim
  | exc e e2 r => exact t.elim
  | lam e e2 k kd e3 => exact t.elim
  | clo e e2 k kd e3 e4 r => exact t.elim
@[reducible] def tTr (Ta : DT) : DBt := fun γ P => Ta γ fun x => vTru x P
theorem t_truth (ha : XE X b e Ta) (he : ∀ whole, isTrue e X.env whole = (do let v ← whole; standAt e.pos; holding [v] (truthy v)) := by intro _; rfl) : XT X b e (tTr Ta) := by
  obtain ⟨_, h1, h2⟩ := ha
  refine ⟨_, pt_truth h1 he, fun P n t Q q => h2 _ n t _ fun v d F1 H1 x1 r1 t1 => ?_⟩
  obtain ⟨k, a1, a2⟩ := tru_of (K := X.K) x1.sub r1 t1
  exact ⟨k, a1, q k F1 H1 x1 a2⟩
@[reducible] def dIf (A : DBt) (Ta Tb : DT) : DT := fun γ P => A γ fun c => (match c with | true => Ta γ P | false => Tb γ P)
theorem x_if (hc : XT X b e A) (ha : XE X b e1 Ta) (hb : XE X b e2 Tb) : XE X b (.IfExp e e1 e2 pos) (dIf A Ta Tb) := by
  obtain ⟨_, f1, f2⟩ := hc; obtain ⟨_, h1, h2⟩ := ha; obtain ⟨_, g1, g2⟩ := hb
  refine ⟨_, pe_ifExp f1 h1 g1, fun P n t Q q => f2 _ n t _ fun c F1 H1 x1 t1 => ?_⟩
  cases c with
  | true =>
    exact iteT (h2 _ (n.to x1) t1 _ fun u f F3 H3 x3 r3 p => q u f F3 H3 (x1.trans x3) r3 p)
  | false =>
    exact iteF (g2 _ (n.to x1) t1 _ fun u f F3 H3 x3 r3 p => q u f F3 H3 (x1.trans x3) r3 p)
end
end DL

namespace DL
open PySem PySem.Spec PyProof.Rows L2
section
variable {X : Cx} {b : Bg} {e e1 e2 e3 : Expr} {es : List Expr} {pos : Pos}
/-! ### arguments, displays -/
@[reducible] def aNil : DAt := fun _ P => P []
@[reducible] def aCons (Ta : DT) (Tr : DAt) : DAt := fun γ P => Ta γ fun x => Tr γ fun xs => P (x :: xs)
theorem a_nil : XA X b [] aNil := ⟨_, pa_nil, fun P n t Q q => q [] [] _ _ (Ext.refl n.ok) .nil t⟩
theorem da_cons {te : TE} {tr : TA} (h2 : DE b te Ta) (g2 : DA b tr Tr) : DA b (tCons te tr) (aCons Ta Tr) := fun P n t Q q => h2 _ n t _ fun v d F1 H1 x1 r1 t1 =>
  g2 _ (n.to x1) t1 _ fun vs ds F2 H2 x2 r2 t2 => q _ _ F2 H2 (x1.trans x2) (.cons (x2.mono r1) r2) t2
theorem a_cons (ha : XE X b e Ta) (hr : XA X b es Tr) (hs : starEach (e :: es) X.env = (false, eval e X.env) :: starEach es X.env := by rfl) : XA X b (e :: es) (aCons Ta Tr) := by
  obtain ⟨_, h1, h2⟩ := ha; obtain ⟨_, g1, g2⟩ := hr
  exact ⟨_, pa_cons h1 g1 hs, da_cons h2 g2⟩
theorem k_nil : XKw X b [] aNil := ⟨_, pk_nil, fun P n t Q q => q [] [] _ _ (Ext.refl n.ok) .nil t⟩
theorem k_cons {nm : Option Str} {kpos : Pos} {kws : List Keyword} (ha : XE X b e Ta) (hr : XKw X b kws Tr) : XKw X b (⟨nm, e, kpos⟩ :: kws) (aCons Ta Tr) := by
  obtain ⟨_, h1, h2⟩ := ha; obtain ⟨_, g1, g2⟩ := hr
  exact ⟨_, pk_cons h1 g1, da_cons h2 g2⟩
@[reducible] def dTup (Ta : DAt) : DT := fun γ P => Ta γ fun xs => xs.length ≤ 100000 ∧ P (.tup xs)
theorem x_tup {x1} (h : XA X b es Ta) : XE X b (.Tuple es x1 pos) (dTup Ta) := by
  obtain ⟨_, h1, h2⟩ := h
  refine ⟨_, pe_tup h1, fun P n t Q q => h2 _ n t _ fun vs ds F1 H1 x1 r1 t1 => ⟨Nat.le_trans (by rw [r1.length]; exact t1.1) (by decide), fun p hp => ?_⟩⟩
  exact q _ _ (upd F1 p (.tup vs)) _ (x1.trans (Ext.push x1.ok hp)) (.tup upd_same (r1.mono (Ext.push x1.ok hp).grow)) t1.2
@[reducible] def lDisp (Ta : DAt) : DAt := fun γ P => Ta γ fun xs => xs.length ≤ 100000 ∧ P xs
theorem l_lst (h : XA X b es Ta) : XL X b (.List es pos) (lDisp Ta) := by
  obtain ⟨_, h1, h2⟩ := h
  refine ⟨_, pe_lst h1, fun P n t Q q => h2 _ n t _ fun vs ds F1 H1 x1 r1 t1 => ⟨Nat.le_trans (by rw [r1.length]; exact t1.1) (by decide), fun p hp => ?_⟩⟩
  exact q p vs ds F1 _ (x1.trans (Ext.laid x1.ok hp)) (x1.back n.ok hp) upd_same (x1.ok.fF hp) r1 t1.2
/-- a new list as a value -/
@[reducible] def dL (Tl : DAt) : DT := fun γ P => Tl γ fun xs => P (.lst xs)
theorem de_l {te : TE} {Tl : DAt} (h : DLs b te Tl) : DE b te (dL Tl) := fun P n t Q q => h _ n t _ fun p vs xs F1 H1 x1 hp h1 hf r p1 => by
  have nb := n.ok.nb hp
  have x2 := x1.take hp nb h1
  exact q _ _ (upd F1 p (.lst vs)) H1 x2 (.lst upd_same (r.mono fun a u z => by rw [upd_ne (ne_of_none z hf)]; exact z)) p1
theorem x_l (h : XL X b e Tl) : XE X b e (dL Tl) := by
  obtain ⟨_, h1, h2⟩ := h
  exact ⟨_, h1, de_l h2⟩

/-! ### calls of the def's own kin -/
abbrev DSp := List Dt → (Dt → Prop) → Prop
def spD (b : Bg) (m : Nat) (T : DSp) : Sp := fun vs H Q _ => ∃ (F : Hp) (ds : List Dt) (P : Dt → Prop), Ok b F H ∧ RepL b F vs ds ∧ ds.length = m ∧ T ds P ∧ ∀ v d F' H', Ext b F H F' H' → Rep b F' v d → P d → Q v H'
@[reducible] def dCall (m : Nat) (T : DSp) (Ta : DAt) : DT := fun γ P => Ta γ fun ds => ds.length = m ∧ T ds P
theorem x_call {CX : CXT} {k : Nat} {f : Addr} {fd : FuncData} {ps : List Str} {x : Str} {p : Pos} {m : Nat} {T : DSp} {Ta : DAt} (F : FnOk X.prog X.w X.K X.mg X.base CX0 k f fd ps (spD b m T)) (hr : Room k X.A) (hg : Gl X x) (hm : X.mg x = some (.ref f)) (hk : PySem.W.keepIn X.K (.ref f) = true) (hb : Binds X.K fd ps [])
    (ha : XA X b (e :: es) Ta) (hdb : (x == ("__debug__" : Str)) = false := by decide) (he : starEach (e :: es) X.env = (false, eval e X.env) :: starEach es X.env := by rfl) (hpl : (backTo pos (starEach es X.env)).any (·.1) = false := by rfl) : XE X b (.Call (.Name x p) (e :: es) [] pos) (dCall m T Ta) := by
  obtain ⟨_, h1, h2⟩ := ha
  refine ⟨_, pe_call F hr hg hm hk hb .nil pass0 h1 hdb he hpl, fun P n t Q q => h2 _ n t _ fun vs ds F1 H1 x1 r1 t1 => ?_⟩
  show spD b m T (vs ++ []) H1 Q _
  rw [List.append_nil]
  exact ⟨F1, ds, P, x1.ok, r1, t1.1, t1.2, fun v d F' H' x r p1 => q v d F' H' (x1.trans x) r p1⟩
@[reducible] def dCallK (m : Nat) (T : DSp) (g : List Dt → List Dt → List Dt) (Ta Tk : DAt) : DT := fun γ P => Ta γ fun ds => Tk γ fun es => (g ds es).length = m ∧ T (g ds es) P
theorem x_callK {k : Nat} {f : Addr} {fd : FuncData} {ps ks : List Str} {x : Str} {p : Pos} {m : Nat} {T : DSp} {Ta Tk : DAt} {kws : List Keyword} {g : List Value → List Value → List Value} {gV : List V → List V → List V} {gD : List Dt → List Dt → List Dt}
    (F : FnOk X.prog X.w X.K X.mg X.base CX0 k f fd ps (spD b m T)) (hr : Room k X.A) (hg : Gl X x) (hm : X.mg x = some (.ref f)) (hk : PySem.W.keepIn X.K (.ref f) = true) (hb : KBinds X.K fd ps ks g gV) (hgd : ∀ {F : Hp} {vs zs : List V} {ds es : List Dt}, RepL b F vs ds → RepL b F zs es → RepL b F (gV vs zs) (gD ds es))
    (ha : XA X b (e :: es) Ta) (hkw : XKw X b kws Tk) (hall : (backToKw pos (keywordEach kws X.env)).all (·.1.isSome) = true := by rfl) (hks : (backToKw pos (keywordEach kws X.env)).filterMap (·.1) = ks := by rfl)
    (hdb : (x == ("__debug__" : Str)) = false := by decide) (he : starEach (e :: es) X.env = (false, eval e X.env) :: starEach es X.env := by rfl)
    (hpl : ((backTo pos (starEach (e :: es) X.env)).any (·.1) || (backToKw pos (keywordEach kws X.env)).any (·.1.isNone)) = false := by rfl) : XE X b (.Call (.Name x p) (e :: es) kws pos) (dCallK m T gD Ta Tk) := by
  obtain ⟨_, h1, h2⟩ := ha; obtain ⟨_, g1, g2⟩ := hkw
  refine ⟨_, pe_callK (E := E0) F hr hg hm hk hb pass0 h1 g1 hall hks hdb he hpl, fun P n t Q q => h2 _ n t _ fun vs ds F1 H1 x1 r1 t1 => g2 _ (n.to x1) t1 _ fun zs es F2 H2 x2 r2 t2 => ?_⟩
  exact ⟨F2, _, P, x2.ok, hgd (r1.mono x2.grow) r2, t2.1, t2.2, fun v d F' H' x r p1 => q v d F' H' ((x1.trans x2).trans x) r p1⟩
/-- f(k = v, ..) -/
theorem pe_callK0 {CX : CXT} {k : Nat} {f : Addr} {fd : FuncData} {ps ks : List Str} {sp : Sp} {E : L2.XK} {x : Str} {p : Pos} {kws : List Keyword} {tk : TA} {g : List Value → List Value → List Value} {gV : List V → List V → List V}
    (F : FnOk X.prog X.w X.K X.mg X.base CX k f fd ps sp) (hr : Room k X.A) (hg : Gl X x) (hm : X.mg x = some (.ref f)) (hk : PySem.W.keepIn X.K (.ref f) = true) (hb : KBinds X.K fd ps ks g gV) (hx : Passes CX X E)
    (hkw : PK X kws tk) (hall : (backToKw pos (keywordEach kws X.env)).all (·.1.isSome) = true := by rfl) (hks : (backToKw pos (keywordEach kws X.env)).filterMap (·.1) = ks := by rfl)
    (hdb : (x == ("__debug__" : Str)) = false := by decide) (hpl : ((backTo pos (starEach [] X.env)).any (·.1) || (backToKw pos (keywordEach kws X.env)).any (·.1.isNone)) = false := by rfl) : PE X (.Call (.Name x p) [] kws pos) (fun σ H Q => tk σ H fun zs H2 => sp (gV [] zs) H2 Q E) := by
  refine ⟨fun pins s σ H Q I h => ?_⟩
  refine wpAny_Call_Name_kw (ld_glob I hg hm ?_ hdb)
  refine PySem.W.callWith_KW0 (h₀ := X.base) I.ok.mod.kin hk hall ?_ hpl
  refine thn (hkw.run pos pins s σ H _ I h) fun ws s2 ⟨zs, H2, I2, rz, q2⟩ => ⟨I2.kIn, ?_⟩
  rw [hks]
  exact run_fnk F hr hb hx I2 .nil rz q2
theorem x_callK0 {k : Nat} {f : Addr} {fd : FuncData} {ps ks : List Str} {x : Str} {p : Pos} {m : Nat} {T : DSp} {Tk : DAt} {kws : List Keyword} {g : List Value → List Value → List Value} {gV : List V → List V → List V} {gD : List Dt → List Dt → List Dt}
    (F : FnOk X.prog X.w X.K X.mg X.base CX0 k f fd ps (spD b m T)) (hr : Room k X.A) (hg : Gl X x) (hm : X.mg x = some (.ref f)) (hk : PySem.W.keepIn X.K (.ref f) = true) (hb : KBinds X.K fd ps ks g gV) (hgd : ∀ {F : Hp} {vs zs : List V} {ds es : List Dt}, RepL b F vs ds → RepL b F zs es → RepL b F (gV vs zs) (gD ds es))
    (hkw : XKw X b kws Tk) (hall : (backToKw pos (keywordEach kws X.env)).all (·.1.isSome) = true := by rfl) (hks : (backToKw pos (keywordEach kws X.env)).filterMap (·.1) = ks := by rfl)
    (hdb : (x == ("__debug__" : Str)) = false := by decide) (hpl : ((backTo pos (starEach [] X.env)).any (·.1) || (backToKw pos (keywordEach kws X.env)).any (·.1.isNone)) = false := by rfl) : XE X b (.Call (.Name x p) [] kws pos) (dCallK m T gD aNil Tk) := by
  obtain ⟨_, g1, g2⟩ := hkw
  refine ⟨_, pe_callK0 (E := E0) F hr hg hm hk hb pass0 g1 hall hks hdb hpl, fun P n t Q q => g2 _ n t _ fun zs es F2 H2 x2 r2 t2 => ?_⟩
  exact ⟨F2, _, P, x2.ok, hgd .nil r2, t2.1, t2.2, fun v d F' H' x r p1 => q v d F' H' (x2.trans x) r p1⟩

/-! ### built-in functions by values -/
def DCr (b : Bg) (r : List V → Hp → VK → Prop) (T : DSp) : Prop := ∀ {F H : Hp} {vs : List V} {ds : List Dt} (P : Dt → Prop), Ok b F H → RepL b F vs ds → T ds P → ∀ Q : VK, (∀ v d F' H', Ext b F H F' H' → Rep b F' v d → P d → Q v H') → r vs H Q
@[reducible] def dBi (T : DSp) (Ta : DAt) : DT := fun γ P => Ta γ fun ds => T ds P
theorem de_cb {r : List V → Hp → VK → Prop} {T : DSp} {ta : TA} {Ta : DAt} (h : DCr b r T) (ha : DA b ta Ta) : DE b (tCB r ta) (dBi T Ta) := fun P n t Q q => ha _ n t _ fun vs ds F1 H1 x1 r1 t1 =>
  h P x1.ok r1 t1 Q fun v d F' H' x r p1 => q v d F' H' (x1.trans x) r p1
@[reducible] def bLen : DSp := fun ds P => match ds with
  | [.str z] => z.length ≤ 100000 ∧ P (.int z.length)
  | [.lst xs] => P (.int xs.length)
  | [.tup xs] => P (.int xs.length)
  | _ => False
theorem dcr_len {K : PySem.W.Frag} : DCr b (fun xs H Q => ∃ x n, xs = [x] ∧ LenV K x H n ∧ Q (.int n) H) bLen := fun {F H vs ds} P k r t Q q => by
  cases r with
  | nil => exact t.elim
  | cons r1 r2 =>
    cases r2 with
    | cons _ _ => cases r1 <;> exact t.elim
    | nil =>
      cases r1 with
      | str z => exact ⟨_, _, rfl, ⟨Nat.le_trans t.1 (by decide), rfl⟩, q _ _ F H (Ext.refl k) (.int _) t.2⟩
      | lst h r => exact ⟨_, _, rfl, .inl ⟨_, SqL.of (k.1 _ _ h), rfl⟩, q _ _ F H (Ext.refl k) (.int _) (by rw [r.length]; exact t)⟩
      | tup h r => exact ⟨_, _, rfl, .inr ⟨_, SqT.of (k.1 _ _ h), rfl⟩, q _ _ F H (Ext.refl k) (.int _) (by rw [r.length]; exact t)⟩
      | _ => exact t.elim
theorem x_len {p : Pos} (hg : Gl X "len") (hm : X.mg "len" = none) (ha : XA X b [e] Ta) (he : starEach [e] X.env = (false, eval e X.env) :: starEach [] X.env := by rfl) (hpl : (backTo pos (starEach [] X.env)).any (·.1) = false := by rfl) : XE X b (.Call (.Name "len" p) [e] [] pos) (dBi bLen Ta) := by
  obtain ⟨_, h1, h2⟩ := ha
  exact ⟨_, pe_callB call_len hg hm PySem.boot_len h1 (he := he) (hpl := hpl), de_cb dcr_len h2⟩
@[reducible] def bInt : DSp := fun ds P => match ds with
  | [.int i] => P (.int i)
  | [.bl k] => P (.int (if k then 1 else 0))
  | _ => False
theorem x_intOf {p : Pos} (hg : Gl X "int") (hm : X.mg "int" = none) (ha : XA X b [e] Ta) (he : starEach [e] X.env = (false, eval e X.env) :: starEach [] X.env := by rfl) (hpl : (backTo pos (starEach [] X.env)).any (·.1) = false := by rfl) : XE X b (.Call (.Name "int" p) [e] [] pos) (dBi bInt Ta) := by
  obtain ⟨_, h1, h2⟩ := ha
  refine ⟨_, pe_callTy call_int1 hg hm (by decide +kernel) h1 (he := he) (hpl := hpl), de_cb (fun {F H vs ds} P k r t Q q => ?_) h2⟩
  cases r with
  | nil => exact t.elim
  | cons r1 r2 =>
    cases r2 with
    | cons _ _ => cases r1 <;> exact t.elim
    | nil =>
      cases r1 with
      | int i => exact .inl ⟨_, rfl, q _ _ F H (Ext.refl k) (.int _) t⟩
      | bl i => exact .inr ⟨_, rfl, q _ _ F H (Ext.refl k) (.int _) t⟩
      | _ => exact t.elim
theorem repL_ints {F : Hp} : ∀ {ns : List Int} {vs : List V}, RepL b F vs (ns.map Dt.int) → vs = ns.map V.int
  | [], _, h => by cases h; rfl
  | n :: ns, _, h => by
    cases h with
    | cons r t => cases r; rw [repL_ints t] <;> rfl
theorem repL_bls {F : Hp} : ∀ {ns : List Bool} {vs : List V}, RepL b F vs (ns.map Dt.bl) → vs = ns.map V.bl
  | [], _, h => by cases h; rfl
  | n :: ns, _, h => by
    cases h with
    | cons r t => cases r; rw [repL_bls t] <;> rfl
theorem repL_strs {F : Hp} : ∀ {ns : List Str} {vs : List V}, RepL b F vs (ns.map Dt.str) → vs = ns.map V.str
  | [], _, h => by cases h; rfl
  | n :: ns, _, h => by
    cases h with
    | cons r t => cases r; rw [repL_strs t] <;> rfl
@[reducible] def bSum : DSp := fun ds P => ∃ ns : List Int, ds = [.lst (ns.map Dt.int)] ∧ P (.int ns.sum)
theorem x_sum {p : Pos} (hc : X.calm = true) (hg : Gl X "sum") (hm : X.mg "sum" = none) (ha : XA X b [e] Ta) (he : starEach [e] X.env = (false, eval e X.env) :: starEach [] X.env := by rfl) (hpl : (backTo pos (starEach [] X.env)).any (·.1) = false := by rfl) : XE X b (.Call (.Name "sum" p) [e] [] pos) (dBi bSum Ta) := by
  obtain ⟨_, h1, h2⟩ := ha
  refine ⟨_, pe_callB (cr_sum hc) hg hm (by decide +kernel) h1 (he := he) (hpl := hpl), de_cb (fun {F H vs ds} P k r t Q q => ?_) h2⟩
  obtain ⟨ns, rfl, t⟩ := t
  cases r with
  | cons r1 r2 =>
    cases r2
    cases r1 with
    | lst h r =>
      cases repL_ints r
      exact ⟨_, ns, rfl, SqL.of (k.1 _ _ h), q _ _ F H (Ext.refl k) (.int _) t⟩
@[reducible] def bAll : DSp := fun ds P => ∃ ns : List Bool, ds = [.lst (ns.map Dt.bl)] ∧ P (.bl (ns.all id))
theorem x_all {p : Pos} (hc : X.calm = true) (hg : Gl X "all") (hm : X.mg "all" = none) (ha : XA X b [e] Ta) (he : starEach [e] X.env = (false, eval e X.env) :: starEach [] X.env := by rfl) (hpl : (backTo pos (starEach [] X.env)).any (·.1) = false := by rfl) : XE X b (.Call (.Name "all" p) [e] [] pos) (dBi bAll Ta) := by
  obtain ⟨_, h1, h2⟩ := ha
  refine ⟨_, pe_callB (cr_all hc) hg hm (by decide +kernel) h1 (he := he) (hpl := hpl), de_cb (fun {F H vs ds} P k r t Q q => ?_) h2⟩
  obtain ⟨ns, rfl, t⟩ := t
  cases r with
  | cons r1 r2 =>
    cases r2
    cases r1 with
    | lst h r =>
      cases repL_bls r
      exact ⟨_, ns, rfl, SqL.of (k.1 _ _ h), q _ _ F H (Ext.refl k) (.bl _) t⟩
@[reducible] def bAny : DSp := fun ds P => ∃ ns : List Bool, ds = [.lst (ns.map Dt.bl)] ∧ P (.bl (ns.any id))
theorem x_any {p : Pos} (hc : X.calm = true) (hg : Gl X "any") (hm : X.mg "any" = none) (ha : XA X b [e] Ta) (he : starEach [e] X.env = (false, eval e X.env) :: starEach [] X.env := by rfl) (hpl : (backTo pos (starEach [] X.env)).any (·.1) = false := by rfl) : XE X b (.Call (.Name "any" p) [e] [] pos) (dBi bAny Ta) := by
  obtain ⟨_, h1, h2⟩ := ha
  refine ⟨_, pe_callB (cr_any hc) hg hm (by decide +kernel) h1 (he := he) (hpl := hpl), de_cb (fun {F H vs ds} P k r t Q q => ?_) h2⟩
  obtain ⟨ns, rfl, t⟩ := t
  cases r with
  | cons r1 r2 =>
    cases r2
    cases r1 with
    | lst h r =>
      cases repL_bls r
      exact ⟨_, ns, rfl, SqL.of (k.1 _ _ h), q _ _ F H (Ext.refl k) (.bl _) t⟩
@[reducible] def bTuple : DSp := fun ds P => match ds with
  | [.lst xs] => P (.tup xs)
  | [.tup xs] => P (.tup xs)
  | _ => False
theorem x_tupleOf {p : Pos} (hg : Gl X "tuple") (hm : X.mg "tuple" = none) (ha : XA X b [e] Ta) (he : starEach [e] X.env = (false, eval e X.env) :: starEach [] X.env := by rfl) (hpl : (backTo pos (starEach [] X.env)).any (·.1) = false := by rfl) : XE X b (.Call (.Name "tuple" p) [e] [] pos) (dBi bTuple Ta) := by
  obtain ⟨_, h1, h2⟩ := ha
  refine ⟨_, pe_callTy call_tuple_of hg hm (by decide +kernel) h1 (he := he) (hpl := hpl), de_cb (fun {F H vs ds} P k r t Q q => ?_) h2⟩
  cases r with
  | nil => exact t.elim
  | cons r1 r2 =>
    cases r2 with
    | cons _ _ => cases r1 <;> exact t.elim
    | nil =>
      cases r1 with
      | lst h r => exact ⟨_, _, rfl, .inl ⟨SqL.of (k.1 _ _ h), fun l hl => q _ _ _ _ (Ext.push k hl) (.tup upd_same (r.mono (Ext.push k hl).grow)) t⟩⟩
      | tup h r => exact ⟨_, _, rfl, .inr ⟨SqT.of (k.1 _ _ h), q _ _ F H (Ext.refl k) (.tup h r) t⟩⟩
      | _ => exact t.elim
@[reducible] def bList (ds : List Dt) (P : List Dt → Prop) : Prop := match ds with
  | [.lst xs] => P xs
  | [.tup xs] => P xs
  | _ => False
theorem l_listOf {p : Pos} (hg : Gl X "list") (hm : X.mg "list" = none) (ha : XA X b [e] Ta) (he : starEach [e] X.env = (false, eval e X.env) :: starEach [] X.env := by rfl) (hpl : (backTo pos (starEach [] X.env)).any (·.1) = false := by rfl) : XL X b (.Call (.Name "list" p) [e] [] pos) (fun γ P => Ta γ fun ds => bList ds P) := by
  obtain ⟨_, h1, h2⟩ := ha
  refine ⟨_, pe_callTy call_list_of hg hm (by decide +kernel) h1 (he := he) (hpl := hpl), fun P n t Q q => h2 _ n t _ fun vs ds F1 H1 x1 r t => ?_⟩
  cases r with
  | nil => exact t.elim
  | cons r1 r2 =>
    cases r2 with
    | cons _ _ => cases r1 <;> exact t.elim
    | nil =>
      cases r1 with
      | lst h r => exact ⟨_, _, rfl, .inl (SqL.of (x1.sub _ _ h)), fun l hl => q l _ _ F1 _ (x1.trans (Ext.laid x1.ok hl)) (x1.back n.ok hl) upd_same (x1.ok.fF hl) r t⟩
      | tup h r => exact ⟨_, _, rfl, .inr (SqT.of (x1.sub _ _ h)), fun l hl => q l _ _ F1 _ (x1.trans (Ext.laid x1.ok hl)) (x1.back n.ok hl) upd_same (x1.ok.fF hl) r t⟩
      | _ => exact t.elim

/-! ### isinstance of built-in types -/
def tyN : Dt → String
  | .non => "NoneType" | .bl _ => "bool" | .int _ => "int" | .str _ => "str" | .lst _ => "list" | .tup _ => "tuple" | .dT _ => "dict" | .dK _ => "dict" | _ => "?"
def isTy (d : Dt) (n : String) : Option Bool := kitB (tyN d) n
theorem ty_of {F H : Hp} {K : PySem.W.Frag} {v : V} {d : Dt} (s : Sub F H) (r : Rep b F v d) (h : tyN d ≠ "?") : TyX K H v (.type (tyN d)) := by
  cases r with
  | non => exact .base .non
  | bl k => exact .base (.bl k)
  | int k => exact .base (.int k)
  | str k => exact .base (.str k)
  | lst e r => exact .base (.lst (s _ _ e))
  | tup e r => exact .base (.tup (s _ _ e))
  | dT e r => exact .base (.dT (s _ _ e))
  | dK e r => exact .base (.dK (s _ _ e))
  | ptr _ => exact (h rfl).elim
  | ins e r => exact (h rfl).elim
  | bag e => exact (h rfl).elim
  | exc e e2 r => exact (h rfl).elim
  | lam e e2 k kd e3 => exact (h rfl).elim
  | clo e e2 k kd e3 e4 r => exact (h rfl).elim
inductive Tk where
  | kint | kbool | kstr | klist | ktuple
def tkS : Tk → String
  | .kint => "int" | .kbool => "bool" | .kstr => "str" | .klist => "list" | .ktuple => "tuple"
@[reducible] def isB : Tk → Dt → Bool
  | .kint, .bl _ => true
  | .kint, .int _ => true
  | .kbool, .bl _ => true
  | .kstr, .str _ => true
  | .klist, .lst _ => true
  | .ktuple, .tup _ => true
  | _, _ => false
def KitOk (n : Tk) : Prop := ∀ d, tyN d ≠ "?" → kitB (tyN d) (tkS n) = some (isB n d)
theorem kitOk_by {n : Tk} (h0 : kitB "NoneType" (tkS n) = some (isB n .non)) (h1 : kitB "bool" (tkS n) = some (isB n (.bl true))) (h2 : kitB "int" (tkS n) = some (isB n (.int 0))) (h3 : kitB "str" (tkS n) = some (isB n (.str Str.empty)))
    (h4 : kitB "list" (tkS n) = some (isB n (.lst []))) (h5 : kitB "tuple" (tkS n) = some (isB n (.tup []))) (h6 : kitB "dict" (tkS n) = some (isB n (.dT []))) : KitOk n
  | .non, _ => h0
  | .bl k, _ => h1.trans (congrArg some (show isB n (.bl true) = isB n (.bl k) by cases n <;> rfl))
  | .int k, _ => h2.trans (congrArg some (show isB n (.int 0) = isB n (.int k) by cases n <;> rfl))
  | .str k, _ => h3.trans (congrArg some (show isB n (.str Str.empty) = isB n (.str k) by cases n <;> rfl))
  | .lst k, _ => h4.trans (congrArg some (show isB n (.lst []) = isB n (.lst k) by cases n <;> rfl))
  | .tup k, _ => h5.trans (congrArg some (show isB n (.tup []) = isB n (.tup k) by cases n <;> rfl))
  | .dT k, _ => h6.trans (congrArg some (show isB n (.dT []) = isB n (.dT k) by cases n <;> rfl))
  | .dK k, _ => h6.trans (congrArg some (show isB n (.dT []) = isB n (.dK k) by cases n <;> rfl))
  | .ins _ _, h => (h rfl).elim
  | .ptr _, h => (h rfl).elim
  | .bag, h => (h rfl).elim
  | .exc _ _, h => (h rfl).elim
  | .lam _ _, h => (h rfl).elim
  | .clo _ _, h => (h rfl).elim
theorem kit_kint : KitOk .kint := kitOk_by (by decide +kernel) (by decide +kernel) (by decide +kernel) (by decide +kernel) (by decide +kernel) (by decide +kernel) (by decide +kernel) 
theorem kit_kbool : KitOk .kbool := kitOk_by (by decide +kernel) (by decide +kernel) (by decide +kernel) (by decide +kernel) (by decide +kernel) (by decide +kernel) (by decide +kernel) 
theorem kit_kstr : KitOk .kstr := kitOk_by (by decide +kernel) (by decide +kernel) (by decide +kernel) (by decide +kernel) (by decide +kernel) (by decide +kernel) (by decide +kernel) 
theorem kit_klist : KitOk .klist := kitOk_by (by decide +kernel) (by decide +kernel) (by decide +kernel) (by decide +kernel) (by decide +kernel) (by decide +kernel) (by decide +kernel) 
theorem kit_ktuple : KitOk .ktuple := kitOk_by (by decide +kernel) (by decide +kernel) (by decide +kernel) (by decide +kernel) (by decide +kernel) (by decide +kernel) (by decide +kernel) 
@[reducible] def known : Dt → Bool
  | .ins _ _ => false | .ptr _ => false | .bag => false | .exc _ _ => false | .lam _ _ => false | .clo _ _ => false | _ => true
theorem known_ty : ∀ {d : Dt}, known d = true → tyN d ≠ "?"
  | .non, _ => show "NoneType" ≠ "?" by decide
  | .bl _, _ => show "bool" ≠ "?" by decide
  | .int _, _ => show "int" ≠ "?" by decide
  | .str _, _ => show "str" ≠ "?" by decide
  | .lst _, _ => show "list" ≠ "?" by decide
  | .tup _, _ => show "tuple" ≠ "?" by decide
  | .dT _, _ => show "dict" ≠ "?" by decide
  | .dK _, _ => show "dict" ≠ "?" by decide
@[reducible] def dIsi1 (n : Tk) (Ta : DT) : DT := fun γ P => Ta γ fun x => known x = true ∧ P (.bl (isB n x))
@[reducible] def dIsi (n1 n2 : Tk) (Ta : DT) : DT := fun γ P => Ta γ fun x => known x = true ∧ P (.bl (oB (isB n1 x) (isB n2 x)))
theorem x_isi1 {p q : Pos} {c : Str} {n : Tk} (hk : KitOk n) (hg : Gl X "isinstance") (hm : X.mg "isinstance" = none) (hgc : Gl X c) (hmc : X.mg c = none) (hv : bootBuiltins c = some (.type (tkS n))) (ha : XE X b e Ta) (hn : c ≠ "__name__" := by decide) (hd : (c == ("__debug__" : Str)) = false := by decide)
    (he : starEach [e, .Name c q] X.env = (false, eval e X.env) :: starEach [.Name c q] X.env := by rfl) (hpl : (backTo pos (starEach [.Name c q] X.env)).any (·.1) = false := by rfl) (he2 : starEach [.Name c q] X.env = (false, eval (.Name c q) X.env) :: starEach [] X.env := by rfl) : XE X b (.Call (.Name "isinstance" p) [e, .Name c q] [] pos) (dIsi1 n Ta) := by
  obtain ⟨_, h1, h2⟩ := ha
  refine ⟨_, pe_callB call_isi hg hm (by decide +kernel) (pa_cons h1 (pa_cons (pe_bltn (v := .ty (tkS n)) hgc hmc hv rfl hn hd) pa_nil he2) he) (he := he) (hpl := hpl), fun P n t Q q => h2 _ n t _ fun v d F1 H1 x1 r1 t1 => ?_⟩
  obtain ⟨hq, t1⟩ := t1
  exact ⟨_, _, _, _, _, rfl, .ty _, ty_of x1.sub r1 (known_ty hq), kit_ty (hk d (known_ty hq)), q _ _ F1 H1 x1 (.bl _) t1⟩
theorem x_isi2 {p q1 q2 q3 : Pos} {c1 c2 : Str} {n1 n2 : Tk} {x1} (hk1 : KitOk n1) (hk2 : KitOk n2) (hg : Gl X "isinstance") (hm : X.mg "isinstance" = none) (hg1 : Gl X c1) (hm1 : X.mg c1 = none) (hv1 : bootBuiltins c1 = some (.type (tkS n1))) (hg2 : Gl X c2) (hm2 : X.mg c2 = none) (hv2 : bootBuiltins c2 = some (.type (tkS n2))) (ha : XE X b e Ta)
    (hn1 : c1 ≠ "__name__" := by decide) (hd1 : (c1 == ("__debug__" : Str)) = false := by decide) (hn2 : c2 ≠ "__name__" := by decide) (hd2 : (c2 == ("__debug__" : Str)) = false := by decide)
    (he : starEach [e, .Tuple [.Name c1 q1, .Name c2 q2] x1 q3] X.env = (false, eval e X.env) :: starEach [.Tuple [.Name c1 q1, .Name c2 q2] x1 q3] X.env := by rfl) (hpl : (backTo pos (starEach [.Tuple [.Name c1 q1, .Name c2 q2] x1 q3] X.env)).any (·.1) = false := by rfl)
    (he2 : starEach [.Tuple [.Name c1 q1, .Name c2 q2] x1 q3] X.env = (false, eval (.Tuple [.Name c1 q1, .Name c2 q2] x1 q3) X.env) :: starEach [] X.env := by rfl) (he3 : starEach [.Name c1 q1, .Name c2 q2] X.env = (false, eval (.Name c1 q1) X.env) :: starEach [.Name c2 q2] X.env := by rfl) (he4 : starEach [.Name c2 q2] X.env = (false, eval (.Name c2 q2) X.env) :: starEach [] X.env := by rfl) :
    XE X b (.Call (.Name "isinstance" p) [e, .Tuple [.Name c1 q1, .Name c2 q2] x1 q3] [] pos) (dIsi n1 n2 Ta) := by
  obtain ⟨_, h1, h2⟩ := ha
  refine ⟨_, pe_callB call_isiT hg hm (by decide +kernel) (pa_cons h1 (pa_cons (pe_tup (pa_cons (pe_bltn (v := .ty (tkS n1)) hg1 hm1 hv1 rfl hn1 hd1) (pa_cons (pe_bltn (v := .ty (tkS n2)) hg2 hm2 hv2 rfl hn2 hd2) pa_nil he4) he3)) pa_nil he2) he) (he := he) (hpl := hpl), fun P n t Q q => h2 _ n t _ fun v d F1 H1 x1 r1 t1 => ?_⟩
  obtain ⟨hq, t1⟩ := t1
  refine ⟨by show 2 ≤ sizeLine; decide, fun p hp => ?_⟩
  have x2 := Ext.laid (o := .tup [.ty (tkS n1), .ty (tkS n2)]) x1.ok hp
  refine ⟨_, _, _, _, _, _, rfl, upd_same, .cons (.ty _) (.cons (.ty _) .nil), ty_of x2.sub r1 (known_ty hq), kitAny_cons (kit_ty (hk1 d (known_ty hq))) (fun h => kitAny_cons (kit_ty (hk2 d (known_ty hq))) (fun h' => ?_) (fun h' => ?_)) (fun h => ?_), q _ _ F1 _ (x1.trans x2) (.bl _) t1⟩
  · rw [h, h']; exact kitAny_nil
  · rw [h, h']
  · rw [h]

/-! ### items, slices, join, + -/
@[reducible] def vIx (x y : Dt) (P : Dt → Prop) : Prop := match x, y with
  | .lst xs, .int i => ∃ v, atI xs i = some v ∧ P v
  | .tup xs, .int i => ∃ v, atI xs i = some v ∧ P v
  | .str z, .int i => z.length ≤ 100000 ∧ ∃ c, atI z.cps.toList i = some c ∧ P (.str ⟨#[c]⟩)
  | _, _ => False
theorem atI_rep {F : Hp} {vs : List V} {xs : List Dt} {i : Int} {d : Dt} (r : RepL b F vs xs) (h : atI xs i = some d) : ∃ v, atI vs i = some v ∧ Rep b F v d := by
  unfold atI at h ⊢
  rw [r.length]
  cases e : ixN xs.length i with
  | none => rw [e] at h; cases h
  | some j =>
    rw [e] at h
    exact r.get' h
theorem d2_ix {K : PySem.W.Frag} : D2 b (rIx K) vIx := fun {F H x y d e} P k r1 r2 t Q q => by
  cases r1 with
  | lst h r =>
    cases r2 <;> first | exact t.elim | skip
    obtain ⟨v, t1, t2⟩ := t
    obtain ⟨u, a1, a2⟩ := atI_rep r t1
    exact .inl ⟨_, _, _, _, rfl, rfl, SqL.of (k.1 _ _ h), a1, q _ _ F H (Ext.refl k) a2 t2⟩
  | tup h r =>
    cases r2 <;> first | exact t.elim | skip
    obtain ⟨v, t1, t2⟩ := t
    obtain ⟨u, a1, a2⟩ := atI_rep r t1
    exact .inr (.inl ⟨_, _, _, _, rfl, rfl, SqT.of (k.1 _ _ h), a1, q _ _ F H (Ext.refl k) a2 t2⟩)
  | str z =>
    cases r2 <;> first | exact t.elim | skip
    obtain ⟨t0, v, t1, t2⟩ := t
    exact .inr (.inr ⟨_, _, _, rfl, rfl, Nat.le_trans t0 (by decide), t1, q _ _ F H (Ext.refl k) (.str _) t2⟩)
  | _ => cases r2 <;> exact t.elim
theorem x_ix (ha : XE X b e1 Ta) (hb : XE X b e2 Tb) (hs : PlainIx e2 := by exact fun _ _ => rfl) : XE X b (.Subscript e1 e2 pos) (d2 vIx Ta Tb) := by
  obtain ⟨_, h1, h2⟩ := ha; obtain ⟨_, g1, g2⟩ := hb
  exact ⟨_, pe_ix ix_seq h1 g1 hs, de_op d2_ix h2 g2⟩
abbrev DOt := Gm → (Option Int → Prop) → Prop
structure XO (X : Cx) (b : Bg) (e : Option Expr) (T : DOt) : Prop where
  ex : ∃ te, PO X e te ∧ ∀ {Fm F0 H0 F H : Hp} {σ : L2.St} {γ : Gm} (P : Option Int → Prop), Nv b Fm F0 H0 F H σ γ → T γ P → ∀ Q : Option Int → Hp → Prop, (∀ o F' H', Ext b F H F' H' → P o → Q o H') → te σ H Q
theorem o_none : XO X b none (fun _ P => P none) := ⟨_, po_none, fun P n t Q q => q none _ _ (Ext.refl n.ok) t⟩
@[reducible] def oSome (Ta : DT) : DOt := fun γ P => Ta γ fun x => match x with | .int i => P (some i) | _ => False
theorem o_some (h : XE X b e Ta) : XO X b (some e) (oSome Ta) := by
  obtain ⟨_, h1, h2⟩ := h
  refine ⟨_, po_some h1, fun P n t Q q => h2 _ n t _ fun v d F1 H1 x1 r1 t1 => ?_⟩
  cases r1 <;> first | exact t1.elim | skip
  exact ⟨_, rfl, q _ F1 H1 x1 t1⟩
/-- a slice of a text -/
@[reducible] def dSlS (Ta : DT) (Tl Th : DOt) : DT := fun γ P => Ta γ fun x => Tl γ fun lo => Th γ fun hi => match x with | .str z => z.length ≤ 100000 ∧ P (.str (cutS z lo hi)) | _ => False
theorem x_slS {lo hi : Option Expr} {p2 : Pos} (ha : XE X b e Ta) (hl : XO X b lo Tl) (hh : XO X b hi Th) : XE X b (.Subscript e (.Slice lo hi none p2) pos) (dSlS Ta Tl Th) := by
  obtain ⟨_, h1, h2⟩ := ha; obtain ⟨_, g1, g2⟩ := hl; obtain ⟨_, f1, f2⟩ := hh
  refine ⟨_, pe_slice sl_str h1 g1 f1, fun P n t Q q => h2 _ n t _ fun v d F1 H1 x1 r1 t1 => g2 _ (n.to x1) t1 _ fun o F2 H2 x2 t2 => f2 _ (n.to (x1.trans x2)) t2 _ fun u F3 H3 x3 t3 => ?_⟩
  cases r1 <;> first | exact t3.elim | skip
  exact ⟨_, rfl, Nat.le_trans t3.1 (by decide), q _ _ F3 H3 ((x1.trans x2).trans x3) (.str _) t3.2⟩
def cutD (xs : List Dt) (lo hi : Option Int) : List Dt := (xs.drop (HT.sIx xs.length 0 lo)).take (HT.sIx xs.length xs.length hi - HT.sIx xs.length 0 lo)
theorem cut_rep {F : Hp} {vs : List V} {xs : List Dt} {lo hi : Option Int} (r : RepL b F vs xs) : RepL b F (cutV vs lo hi) (cutD xs lo hi) := by
  unfold cutV cutD
  rw [r.length]
  exact (r.drop _).take _
/-- a slice of a list, new -/
theorem l_sl {lo hi : Option Expr} {p2 : Pos} (ha : XE X b e Ta) (hl : XO X b lo Tl) (hh : XO X b hi Th) : XL X b (.Subscript e (.Slice lo hi none p2) pos) (fun γ P => Ta γ fun x => Tl γ fun lo => Th γ fun hi => match x with | .lst z => P (cutD z lo hi) | _ => False) := by
  obtain ⟨_, h1, h2⟩ := ha; obtain ⟨_, g1, g2⟩ := hl; obtain ⟨_, f1, f2⟩ := hh
  refine ⟨_, pe_slice sl_list h1 g1 f1, fun P n t Q q => h2 _ n t _ fun v d F1 H1 x1 r1 t1 => g2 _ (n.to x1) t1 _ fun o F2 H2 x2 t2 => f2 _ (n.to (x1.trans x2)) t2 _ fun u F3 H3 x3 t3 => ?_⟩
  cases r1 <;> first | exact t3.elim | skip
  rename_i hh r
  have x := (x1.trans x2).trans x3
  refine ⟨_, _, rfl, SqL.of (x.sub _ _ (x3.grow _ _ (x2.grow _ _ hh))), fun p hp => ?_⟩
  exact q p _ _ F3 _ (x.trans (Ext.laid x.ok hp)) (x.back n.ok hp) upd_same (x.ok.fF hp) (cut_rep (r.mono (x2.grow.trans x3.grow))) t3
@[reducible] def vJoin (a : Str) (x : Dt) (P : Dt → Prop) : Prop := ∃ ys : List Str, x = .lst (ys.map Dt.str) ∧ (ys.map (·.length)).sum + ys.length * a.length ≤ 100000 ∧ P (.str (Txt.join a ys))
theorem x_join {apos : Pos} {j : Nat} {p1 : Pos} {a : Str} (ha : XE X b e Ta) (hs : starEach [e] X.env = [(false, eval e X.env)] := by rfl) (hbase : attributeBase (.Constant (.str a) j p1) "join" X.env (eval (.Constant (.str a) j p1) X.env) = eval (.Constant (.str a) j p1) X.env := by rfl) (hline : (apos.endLine == pos.line) = true := by rfl) :
    XE X b (.Call (.Attribute (.Constant (.str a) j p1) "join" apos) [e] [] pos) (fun γ P => Ta γ fun x => vJoin a x P) := by
  obtain ⟨_, h1, h2⟩ := ha
  refine ⟨_, pe_join pe_str h1 hs hbase hline, fun P n t Q q => ⟨⟨_, rfl⟩, h2 _ n t _ fun v d F1 H1 x1 r1 t1 => ?_⟩⟩
  obtain ⟨ys, rfl, t2, t3⟩ := t1
  cases r1 with
  | lst h r =>
    cases repL_strs r
    exact ⟨_, _, ys, rfl, rfl, .inl (SqL.of (x1.sub _ _ h)), Nat.le_trans t2 (by decide), q _ _ F1 H1 x1 (.str _) t3⟩
@[reducible] def vAddS (x y : Dt) (P : Dt → Prop) : Prop := match x, y with | .str u, .str z => u.length + z.length ≤ 100000 ∧ P (.str (u ++ z)) | _, _ => False
theorem x_addS (ha : XE X b e1 Ta) (hb : XE X b e2 Tb) : XE X b (.BinOp e1 .Add e2 pos) (d2 vAddS Ta Tb) := by
  obtain ⟨_, h1, h2⟩ := ha; obtain ⟨_, g1, g2⟩ := hb
  refine ⟨_, pe_op op_add_str h1 g1, de_op (fun {F H x y d e} P k r1 r2 t Q q => ?_) h2 g2⟩
  cases r1 <;> cases r2 <;> first | exact t.elim | skip
  exact ⟨_, _, rfl, rfl, Nat.le_trans t.1 (by decide), q _ _ F H (Ext.refl k) (.str _) t.2⟩
@[reducible] def vAddL (x y : Dt) (P : Dt → Prop) : Prop := match x, y with | .lst u, .lst z => u.length + z.length ≤ 100000 ∧ P (.lst (u ++ z)) | _, _ => False
theorem x_addL (ha : XE X b e1 Ta) (hb : XE X b e2 Tb) : XE X b (.BinOp e1 .Add e2 pos) (d2 vAddL Ta Tb) := by
  obtain ⟨_, h1, h2⟩ := ha; obtain ⟨_, g1, g2⟩ := hb
  refine ⟨_, pe_op op_cat h1 g1, de_op (fun {F H x y d e} P k r1 r2 t Q q => ?_) h2 g2⟩
  cases r1 <;> cases r2 <;> first | exact t.elim | skip
  rename_i h1 r1 _ _ _ h2 r2
  refine ⟨_, _, _, _, rfl, rfl, k.1 _ _ h1, k.1 _ _ h2, Nat.le_trans (by rw [r1.length, r2.length]; exact t.1) (by decide), fun p hp => ?_⟩
  exact q _ _ _ _ (Ext.push k hp) (.lst upd_same ((r1.append r2).mono (Ext.push k hp).grow)) t.2
@[reducible] def vRep (x y : Dt) (P : Dt → Prop) : Prop := match x, y with | .lst u, .int k => 0 ≤ k ∧ k ≤ 1000 ∧ u.length ≤ 10 ∧ P (.lst (List.replicate k.toNat u).flatten) | _, _ => False
theorem rep_rep {F : Hp} {vs : List V} {xs : List Dt} (r : RepL b F vs xs) : ∀ k : Nat, RepL b F (List.replicate k vs).flatten (List.replicate k xs).flatten
  | 0 => .nil
  | k + 1 => by
    rw [List.replicate_succ, List.replicate_succ, List.flatten_cons, List.flatten_cons]
    exact r.append (rep_rep r k)
theorem x_rep (ha : XE X b e1 Ta) (hb : XE X b e2 Tb) : XE X b (.BinOp e1 .Mult e2 pos) (d2 vRep Ta Tb) := by
  obtain ⟨_, h1, h2⟩ := ha; obtain ⟨_, g1, g2⟩ := hb
  refine ⟨_, pe_op op_rep h1 g1, de_op (fun {F H x y d e} P k r1 r2 t Q q => ?_) h2 g2⟩
  cases r1 <;> cases r2 <;> first | exact t.elim | skip
  rename_i h1 r1 j
  obtain ⟨t1, t2, t3, t4⟩ := t
  refine ⟨_, _, _, rfl, rfl, k.1 _ _ h1, by omega, by omega, ?_, fun p hp => ?_⟩
  · rw [r1.length, sizeLine_eq]
    have h5 : j.toNat ≤ 1000 := by omega
    exact Nat.le_trans (Nat.mul_le_mul t3 h5) (by decide)
  · exact q _ _ _ _ (Ext.push k hp) (.lst upd_same ((rep_rep r1 _).mono (Ext.push k hp).grow)) t4
end
end DL

namespace DL
open PySem PySem.Spec PyProof.Rows L2
open RZ (ItzT iZipA pi_zipA)
section
variable {X : Cx} {b : Bg} {e e1 e2 e3 tg : Expr} {es : List Expr} {pos : Pos} {K : PySem.W.Frag} {Fx : Hp}
/-! ### what is walked -/
theorem get_map_of {α : Type} {l : List α} {f : α → Dt} {i : Nat} {x : α} (h : l[i]? = some x) : (l.map f)[i]? = some (f x) := by rw [List.getElem?_map, h]; rfl
theorem walkd_list {a : Addr} {vs : List V} {xs : List Dt} (h : Fx a = some (.lst vs)) (r : RepL b Fx vs xs) : WalkD b (Itl K a) Fx xs := by
  refine ⟨_, by rw [← r.length]; exact (walk_list (K := K) (a := a) (xs := vs)).mono (fun H s => SqL.of (s _ _ h)) (fun i H x H' _ _ y => y), fun i H x H' hi y => ?_⟩
  obtain ⟨e, y⟩ := y
  obtain ⟨d, g1, g2⟩ := r.get y
  exact ⟨d, g1, .inl ⟨e, g2⟩⟩
theorem walkd_tup {a : Addr} {vs : List V} {xs : List Dt} (h : Fx a = some (.tup vs)) (r : RepL b Fx vs xs) : WalkD b (Itt K a) Fx xs := by
  refine ⟨_, by rw [← r.length]; exact (walk_tup (K := K) (a := a) (xs := vs)).mono (fun H s => SqT.of (s _ _ h)) (fun i H x H' _ _ y => y), fun i H x H' hi y => ?_⟩
  obtain ⟨e, y⟩ := y
  obtain ⟨d, g1, g2⟩ := r.get y
  exact ⟨d, g1, .inl ⟨e, g2⟩⟩
def rngD (lo : Int) (n : Nat) : List Dt := (List.range n).map fun i => .int (lo + (i : Nat))
theorem rngD_len (lo : Int) (n : Nat) : (rngD lo n).length = n := by unfold rngD; rw [List.length_map, List.length_range]
theorem rngD_get {lo : Int} {n i : Nat} (h : i < n) : (rngD lo n)[i]? = some (.int (lo + (i : Nat))) := get_map_of (f := fun i : Nat => Dt.int (lo + (i : Nat))) (by simp [h])
theorem rngD_at {lo : Int} {n i : Nat} {d : Dt} (h : (rngD lo n)[i]? = some d) : i < n ∧ d = .int (lo + (i : Nat)) := by
  have hi : i < n := by
    have := (List.getElem?_eq_some_iff.mp h).1
    rw [rngD_len] at this
    exact this
  rw [rngD_get hi] at h
  exact ⟨hi, (Option.some.inj h).symm⟩
theorem walkd_range {lo : Int} {n : Nat} : WalkD b (Itr lo n) Fx (rngD lo n) := by
  refine ⟨_, by rw [rngD_len]; exact (walk_range (lo := lo) (n := n)).mono (fun _ _ => trivial) (fun i H x H' _ _ y => y), fun i H x H' hi y => ?_⟩
  obtain ⟨e, y⟩ := y
  rw [rngD_len] at hi
  exact ⟨_, rngD_get hi, .inl ⟨e, by rw [y]; exact .int _⟩⟩
def sgD (z : Str) : List Dt := z.cps.toList.map fun c => .str ⟨#[c]⟩
theorem walkd_str {z : Str} : WalkD b (Its z) Fx (sgD z) := by
  have hl : (sgD z).length = z.cps.size := by unfold sgD; rw [List.length_map, Array.length_toList]
  refine ⟨_, by rw [hl]; exact (walk_str (z := z)).mono (fun _ _ => trivial) (fun i H x H' _ _ y => y), fun i H x H' hi y => ?_⟩
  obtain ⟨e, c, y1, y2⟩ := y
  refine ⟨.str ⟨#[c]⟩, ?_, .inl ⟨e, by rw [y2]; exact .str _⟩⟩
  unfold sgD
  exact get_map_of (f := fun c : Nat => Dt.str ⟨#[c]⟩) (by rw [Array.getElem?_toList]; exact y1)
theorem walk_zipT {a c : Addr} {xs ys : List V} {n : Nat} (hn : n = min xs.length ys.length) : Walk (ItzT K a c) n (fun H => SqT K H a xs ∧ SqT K H c ys) (YPair (fun i => xs[i]?) (fun i => ys[i]?)) := by
  subst hn
  refine ⟨fun i _ hi q => ?_, fun _ q => ⟨xs, ys, q.1, q.2, by omega⟩, fun i H v H' _ q y => ?_⟩
  · have h1 : i < xs.length := by omega
    have h2 : i < ys.length := by omega
    exact ⟨xs, ys, xs[i], ys[i], q.1, q.2, by simp [h1], by simp [h2]⟩
  · obtain ⟨T, x, z, h1, h2, h3, h4, h5⟩ := y
    exact ⟨T, x, z, h1, h2, h3, h4 xs q.1, h5 ys q.2⟩
def zipD (xs ys : List Dt) : List Dt := List.zipWith (fun x y => .tup [x, y]) xs ys
theorem zipD_len (xs ys : List Dt) : (zipD xs ys).length = min xs.length ys.length := List.length_zipWith
theorem zip_pair {vs ws : List V} {xs ys : List Dt} (r : RepL b Fx vs xs) (r2 : RepL b Fx ws ys) {i : Nat} {H : Hp} {x : V} {H' : Hp} (y : YPair (fun i => vs[i]?) (fun i => ws[i]?) i H x H') :
    ∃ d, (zipD xs ys)[i]? = some d ∧ ((H' = H ∧ Rep b Fx x d) ∨ ∃ T vs ds, x = .ref T ∧ H T = none ∧ H' = upd H T (.tup vs) ∧ RepL b Fx vs ds ∧ d = .tup ds) := by
  obtain ⟨T, u, z, h1, h2, h3, h4, h5⟩ := y
  obtain ⟨d, g1, g2⟩ := r.get h4
  obtain ⟨d', g1', g2'⟩ := r2.get h5
  refine ⟨.tup [d, d'], ?_, .inr ⟨T, [u, z], [d, d'], h1, h2, h3, .cons g2 (.cons g2' .nil), rfl⟩⟩
  unfold zipD
  rw [List.getElem?_zipWith, g1, g1'] <;> rfl
theorem walkd_zipL {a c : Addr} {vs ws : List V} {xs ys : List Dt} (h : Fx a = some (.lst vs)) (r : RepL b Fx vs xs) (h2 : Fx c = some (.lst ws)) (r2 : RepL b Fx ws ys) : WalkD b (Itz K a c) Fx (zipD xs ys) := by
  refine ⟨_, (walk_zip (K := K) (a := a) (b := c) (xs := vs) (ys := ws) (by rw [zipD_len, r.length, r2.length])).mono (fun H s => ⟨SqL.of (s _ _ h), SqL.of (s _ _ h2)⟩) (fun i H x H' _ _ y => y), fun i H x H' hi y => zip_pair r r2 y⟩
theorem walkd_zipT {a c : Addr} {vs ws : List V} {xs ys : List Dt} (h : Fx a = some (.tup vs)) (r : RepL b Fx vs xs) (h2 : Fx c = some (.tup ws)) (r2 : RepL b Fx ws ys) : WalkD b (ItzT K a c) Fx (zipD xs ys) := by
  refine ⟨_, (walk_zipT (K := K) (a := a) (c := c) (xs := vs) (ys := ws) (by rw [zipD_len, r.length, r2.length])).mono (fun H s => ⟨SqT.of (s _ _ h), SqT.of (s _ _ h2)⟩) (fun i H x H' _ _ y => y), fun i H x H' hi y => zip_pair r r2 y⟩
def enumD (xs : List Dt) : List Dt := xs.mapIdx fun i x => .tup [.int (i : Nat), x]
theorem walkd_enum {a : Addr} {vs : List V} {xs : List Dt} (h : Fx a = some (.lst vs)) (r : RepL b Fx vs xs) : WalkD b (Ite K a) Fx (enumD xs) := by
  have hl : (enumD xs).length = vs.length := by unfold enumD; rw [List.length_mapIdx, r.length]
  refine ⟨_, by rw [hl]; exact (walk_enum (K := K) (a := a) (xs := vs)).mono (fun H s => SqL.of (s _ _ h)) (fun i H x H' _ _ y => y), fun i H x H' hi y => ?_⟩
  obtain ⟨T, u, z, h1, h2, h3, h4, h5⟩ := y
  obtain ⟨d, g1, g2⟩ := r.get h5
  cases h4
  refine ⟨.tup [.int (i : Nat), d], ?_, .inr ⟨T, [.int (i : Nat), z], [.int (i : Nat), d], h1, h2, h3, .cons (.int _) (.cons g2 .nil), rfl⟩⟩
  unfold enumD
  rw [List.getElem?_mapIdx, g1] <;> rfl
@[reducible] def iL (Ta : DT) : DAt := fun γ P => Ta γ fun x => match x with | .lst xs => P xs | _ => False
@[reducible] def iT (Ta : DT) : DAt := fun γ P => Ta γ fun x => match x with | .tup xs => P xs | _ => False
@[reducible] def iS (Ta : DT) : DAt := fun γ P => Ta γ fun x => match x with | .str z => P (sgD z) | _ => False
theorem i_list (ha : XE X b e Ta) : XI X b tg e (iL Ta) := by
  obtain ⟨_, h1, h2⟩ := ha
  refine ⟨_, pi_list h1, fun P n t R q => h2 _ n t _ fun v d F1 H1 x1 r1 t1 => ?_⟩
  cases r1 <;> first | exact t1.elim | skip
  rename_i h r
  exact ⟨_, rfl, ⟨_, SqL.of (x1.sub _ _ h)⟩, q _ _ F1 H1 x1 (walkd_list h r) t1⟩
theorem i_tup (ha : XE X b e Ta) : XI X b tg e (iT Ta) := by
  obtain ⟨_, h1, h2⟩ := ha
  refine ⟨_, pi_tup h1, fun P n t R q => h2 _ n t _ fun v d F1 H1 x1 r1 t1 => ?_⟩
  cases r1 <;> first | exact t1.elim | skip
  rename_i h r
  exact ⟨_, rfl, ⟨_, SqT.of (x1.sub _ _ h)⟩, q _ _ F1 H1 x1 (walkd_tup h r) t1⟩
theorem i_str (ha : XE X b e Ta) : XI X b tg e (iS Ta) := by
  obtain ⟨_, h1, h2⟩ := ha
  refine ⟨_, pi_str h1, fun P n t R q => h2 _ n t _ fun v d F1 H1 x1 r1 t1 => ?_⟩
  cases r1 <;> first | exact t1.elim | skip
  exact ⟨_, rfl, q _ _ F1 H1 x1 walkd_str t1⟩
@[reducible] def iR1 (Ta : DAt) : DAt := fun γ P => Ta γ fun ds => match ds with | [.int j] => -100000 ≤ j ∧ j ≤ 100000 ∧ P (rngD 0 j.toNat) | _ => False
theorem i_rng1 {p : Pos} (hg : Gl X "range") (hm : X.mg "range" = none) (ha : XA X b [e] Ta) (hs : starEach [e] X.env = [(false, eval e X.env)] := by rfl) : XI X b tg (.Call (.Name "range" p) [e] [] pos) (iR1 Ta) := by
  obtain ⟨_, h1, h2⟩ := ha
  refine ⟨_, pi_range1 hg hm h1 hs, fun P n t R q => h2 _ n t _ fun vs ds F1 H1 x1 r1 t1 => ?_⟩
  cases r1 with
  | nil => exact t1.elim
  | cons ra rb =>
    cases rb with
    | cons _ _ => cases ra <;> exact t1.elim
    | nil =>
      cases ra <;> first | exact t1.elim | skip
      rename_i j
      obtain ⟨a1, a2, t1⟩ := t1
      exact ⟨j, rfl, by omega, by omega, q _ _ F1 H1 x1 walkd_range t1⟩
@[reducible] def iR2 (Ta : DAt) : DAt := fun γ P => Ta γ fun ds => match ds with | [.int i, .int j] => -100000 ≤ i ∧ i ≤ 100000 ∧ -100000 ≤ j ∧ j ≤ 100000 ∧ P (rngD i (j - i).toNat) | _ => False
theorem i_rng2 {p : Pos} (hg : Gl X "range") (hm : X.mg "range" = none) (ha : XA X b [e1, e2] Ta) (hs : starEach [e1, e2] X.env = [(false, eval e1 X.env), (false, eval e2 X.env)] := by rfl) (hs2 : starEach [e2] X.env = [(false, eval e2 X.env)] := by rfl) : XI X b tg (.Call (.Name "range" p) [e1, e2] [] pos) (iR2 Ta) := by
  obtain ⟨_, h1, h2⟩ := ha
  refine ⟨_, pi_range2 hg hm h1 hs hs2, fun P n t R q => h2 _ n t _ fun vs ds F1 H1 x1 r1 t1 => ?_⟩
  cases r1 with
  | nil => exact t1.elim
  | cons ra rb =>
    cases rb with
    | nil => cases ra <;> exact t1.elim
    | cons rb rc =>
      cases rc with
      | cons _ _ => cases ra <;> cases rb <;> exact t1.elim
      | nil =>
        cases ra <;> cases rb <;> first | exact t1.elim | skip
        obtain ⟨a1, a2, a3, a4, t1⟩ := t1
        exact ⟨_, _, rfl, ⟨by omega, by omega, by omega, by omega⟩, q _ _ F1 H1 x1 walkd_range t1⟩
@[reducible] def iZ (Ta : DAt) : DAt := fun γ P => Ta γ fun ds => match ds with | [.lst xs, .lst ys] => P (zipD xs ys) | [.tup xs, .tup ys] => P (zipD xs ys) | _ => False
theorem i_zip {elts : List Expr} {kk : Nat} {tpos p : Pos} (hg : Gl X "zip") (hm : X.mg "zip" = none) (ha : XA X b [e1, e2] Ta) (hs : starEach [e1, e2] X.env = (false, eval e1 X.env) :: starEach [e2] X.env := by rfl) (hpl : (backTo pos (starEach [e2] X.env)).any (·.1) = false := by rfl) :
    XI X b (.Tuple elts kk tpos) (.Call (.Name "zip" p) [e1, e2] [] pos) (iZ Ta) := by
  obtain ⟨_, h1, h2⟩ := ha
  refine ⟨_, pi_zipA hg hm h1 hs hpl, fun P n t R q => h2 _ n t _ fun vs ds F1 H1 x1 r1 t1 => ?_⟩
  cases r1 with
  | nil => exact t1.elim
  | cons ra rb =>
    cases rb with
    | nil => cases ra <;> exact t1.elim
    | cons rb rc =>
      cases rc with
      | cons _ _ => cases ra <;> cases rb <;> exact t1.elim
      | nil =>
        cases ra with
        | lst h r =>
          cases rb <;> first | exact t1.elim | skip
          rename_i h' r'
          exact ⟨_, _, _, _, rfl, .inl ⟨SqL.of (x1.sub _ _ h), SqL.of (x1.sub _ _ h'), q _ _ F1 H1 x1 (walkd_zipL h r h' r') t1⟩⟩
        | tup h r =>
          cases rb <;> first | exact t1.elim | skip
          rename_i h' r'
          exact ⟨_, _, _, _, rfl, .inr ⟨SqT.of (x1.sub _ _ h), SqT.of (x1.sub _ _ h'), q _ _ F1 H1 x1 (walkd_zipT h r h' r') t1⟩⟩
        | _ => cases rb <;> exact t1.elim
@[reducible] def iE (Ta : DAt) : DAt := fun γ P => Ta γ fun ds => match ds with | [.lst xs] => P (enumD xs) | _ => False
theorem i_enum {elts : List Expr} {kk : Nat} {tpos p : Pos} (hg : Gl X "enumerate") (hm : X.mg "enumerate" = none) (ha : XA X b [e] Ta) (hs : starEach [e] X.env = [(false, eval e X.env)] := by rfl) : XI X b (.Tuple elts kk tpos) (.Call (.Name "enumerate" p) [e] [] pos) (iE Ta) := by
  obtain ⟨_, h1, h2⟩ := ha
  refine ⟨_, pi_enum hg hm h1 hs, fun P n t R q => h2 _ n t _ fun vs ds F1 H1 x1 r1 t1 => ?_⟩
  cases r1 with
  | nil => exact t1.elim
  | cons ra rb =>
    cases rb with
    | cons _ _ => cases ra <;> exact t1.elim
    | nil =>
      cases ra <;> first | exact t1.elim | skip
      rename_i h r
      exact ⟨_, _, rfl, SqL.of (x1.sub _ _ h), q _ _ F1 H1 x1 (walkd_enum h r) t1⟩

/-! ### targets -/
@[reducible] def gN (i : Nat) : Dt → Gm → (Gm → Prop) → Prop := fun d γ P => P (gset γ i (.val d))
theorem dg_name {i : Nat} : DG b (gName i) (gN i) [i] := fun {Fm F0 H0 F H σ γ} P {v d} n r t Q q => q _ _ (n.set i r) List.length_set (fun j hj => by
  rw [List.getElem?_set_ne]
  exact fun e => hj (by rw [e]; exact List.mem_singleton.mpr rfl)) t
theorem g_name {i : Nat} {x : Str} (hN : X.N.Nodup) (hi : X.N[i]? = some x) (hx : Loc X.env.scope x) (hf : X.fn x = true ∨ X.env.scope.names.lookup x = some .local := by first | exact .inl rfl | exact .inr rfl | assumption) : XG X b (.Name x pos) (gN i) [i] := ⟨_, pg_name hN hi hx hf, dg_name⟩
@[reducible] def gsNil : List Dt → Gm → (Gm → Prop) → Prop := fun ds γ P => match ds with | [] => P γ | _ => False
@[reducible] def gsCons (t : Dt → Gm → (Gm → Prop) → Prop) (u : List Dt → Gm → (Gm → Prop) → Prop) : List Dt → Gm → (Gm → Prop) → Prop := fun ds γ P => match ds with | d :: r => t d γ fun γ' => u r γ' P | [] => False
theorem gs_nil : XGs X b [] gsNil [] := ⟨_, pgs_nil, fun {Fm F0 H0 F H σ γ} P {vs ds} n r t Q q => by
  cases r with
  | nil => exact ⟨rfl, q _ _ n rfl (fun _ _ => rfl) t⟩
  | cons _ _ => exact t.elim⟩
theorem gs_cons {js ks : List Nat} (h : XG X b e T js) (g : XGs X b es U ks) (hs : (assignEach (e :: es) X.env).map (·.2) = assign e X.env :: (assignEach es X.env).map (·.2) := by rfl) : XGs X b (e :: es) (gsCons T U) (js ++ ks) := by
  obtain ⟨_, h1, h2⟩ := h; obtain ⟨_, g1, g2⟩ := g
  refine ⟨_, pgs_cons h1 g1 hs, fun {Fm F0 H0 F H σ γ} P {vs ds} n r t Q q => ?_⟩
  cases r with
  | nil => exact t.elim
  | cons ra rb => exact ⟨_, _, rfl, h2 _ n ra t _ fun σ1 γ1 n1 l1 s1 t1 => g2 _ n1 rb t1 _ fun σ2 γ2 n2 l2 s2 t2 => q σ2 γ2 n2 (l2.trans l1) (fun i hi => by rw [s2 i fun z => hi (List.mem_append_right _ z), s1 i fun z => hi (List.mem_append_left _ z)]) t2⟩
@[reducible] def gTu (m : Nat) (U : List Dt → Gm → (Gm → Prop) → Prop) : Dt → Gm → (Gm → Prop) → Prop := fun d γ P => match d with | .tup xs => xs.length = m ∧ U xs γ P | _ => False
theorem g_tup {k : Nat} {js : List Nat} {m : Nat} (hc : X.calm = true) (h : XGs X b es U js) (hn : es.length = m := by rfl) (hp : ∀ {t : TGs}, PGs X es t → PG X (.Tuple es k pos) (gTup X.K m t)) : XG X b (.Tuple es k pos) (gTu m U) js := by
  obtain ⟨_, h1, h2⟩ := h
  refine ⟨_, hp h1, fun {Fm F0 H0 F H σ γ} P {v d} n r t Q q => ?_⟩
  cases r <;> first | exact t.elim | skip
  rename_i hh r
  exact ⟨_, _, rfl, SqT.of (n.ok.1 _ _ hh), by rw [r.length]; exact t.1, h2 _ n r t.2 _ q⟩
/-! ### comprehensions -/
/-- here a word of your own is wanted -/
def Word (p : Prop) : Prop := p
@[reducible] def dLc (TI : DAt) (Tg : Dt → Gm → (Gm → Prop) → Prop) (Tt : DBt) (Te : DT) (vs : List Nat) : DAt := fun γ P => TI γ fun xs => xs.length ≤ 100000 ∧ Word (∃ Iv : Nat → List Dt → Prop, Iv 0 [] ∧
  (∀ i d acc, xs[i]? = some d → acc.length ≤ i → Iv i acc → Tg d (gwipe γ vs) fun γ2 => Tt γ2 fun c => (match c with | true => Te γ2 fun y => Iv (i + 1) (acc ++ [y]) | false => Iv (i + 1) acc)) ∧ ∀ acc, acc.length ≤ xs.length → Iv xs.length acc → P acc)
theorem wipe_at (σ : L2.St) {j : Nat} : ∀ {js : List Nat}, j ∉ js → (wipe σ js)[j]? = σ[j]? := fun h => wipe_out h
theorem wipe_ext {σ σ2 : L2.St} {js : List Nat} (hl : σ2.length = σ.length) (h : ∀ i, i ∉ js → σ2[i]? = σ[i]?) : wipe σ2 js = wipe σ js := by
  apply List.ext_getElem?
  intro i
  by_cases hi : i ∈ js
  · have w : ∀ (τ : L2.St) (ks : List Nat), i ∈ ks → (wipe τ ks)[i]? = if i < τ.length then some none else none := fun τ ks => by
      induction ks with
      | nil => intro h; cases h
      | cons k r ih =>
        intro hk
        show ((wipe τ r).set k none)[i]? = _
        by_cases e : i = k
        · subst e
          by_cases z : i < τ.length
          · rw [if_pos z, List.getElem?_set_self (by rw [wipe_length]; exact z)]
          · rw [if_neg z, List.getElem?_eq_none (by rw [List.length_set, wipe_length]; omega)]
        · rw [List.getElem?_set_ne (Ne.symm e)]
          rcases List.mem_cons.mp hk with q | q
          · exact (e q).elim
          · exact ih q
    rw [w σ2 js hi, w σ js hi, hl]
  · rw [wipe_at σ2 hi, wipe_at σ hi, h i hi]
theorem Nv.wiped {Fm F0 H0 F H : Hp} {σ : L2.St} {γ : Gm} (n : Nv b Fm F0 H0 F H σ γ) (js : List Nat) : Nv b Fm F0 H0 F H (wipe σ js) (gwipe γ js) :=
  n.forget (wipe_length _ _) (gwipe_len _ _) fun i => by
    by_cases h : i ∈ js
    · exact .inl (gat_wiped γ h)
    · exact .inr ⟨gat_wipe γ h, wipe_at σ h⟩
theorem dl_lc {wi : TI} {g : TG} {tt : TT} {te : TE} {vs js : List Nat} {TI : DAt} {Tg : Dt → Gm → (Gm → Prop) → Prop} {Tt : DBt} {Te : DT} (hi : DI b wi TI) (hg : DG b g Tg js) (ht : DB b tt Tt) (he : DE b te Te) (hj : ∀ i, i ∈ js → i ∈ vs) :
    DLs b (tLc wi g tt te vs) (dLc TI Tg Tt Te vs) := fun {Fm F0 H0 F H σ γ} P n t Q q => hi _ n t _ fun J xs Fx H1 x1 w t1 => by
  obtain ⟨hz, Iv, i0, is, id⟩ := t1
  intro D hD
  obtain ⟨Y, wk, wy⟩ := w.ex
  refine lc_it wk (Pv := fun i H' => ∃ F' ws acc, Ext b Fx H1 F' H' ∧ H' D = some (.lst ws) ∧ F' D = none ∧ RepL b F' ws acc ∧ acc.length ≤ i ∧ Iv i acc) ?_ ?_ ?_ ?_
  · exact ⟨Fx, [], [], Ext.laid x1.ok hD, upd_same, x1.ok.fF hD, .nil, Nat.le_refl _, i0⟩
  · rintro i H' _ ⟨F', ws, acc, x, _⟩
    exact fun a o h => x.sub a o (x.grow a o h)
  · rintro i x H' H'' hi ⟨F', ws, acc, xx, a1, a2, a3, a4, a5⟩ y
    obtain ⟨d, hd, hy⟩ := wy i H' x H'' hi y
    -- the item, where it stands
    obtain ⟨F2, x2, rx⟩ : ∃ F2, Ext b F' H' F2 H'' ∧ Rep b F2 x d := by
      rcases hy with ⟨rfl, r⟩ | ⟨T, us, ds, rfl, hT, rfl, r, rfl⟩
      · exact ⟨F', Ext.refl xx.ok, r.mono xx.grow⟩
      · exact ⟨_, Ext.push xx.ok hT, .tup upd_same (r.mono (xx.grow.trans (Ext.push xx.ok hT).grow))⟩
    have nb : b.bag ≠ some D := x1.ok.nb hD
    have n2 : Nv b Fm F0 H0 F2 H'' (wipe σ vs) (gwipe γ vs) := ((n.to x1).to (xx.trans x2)).wiped vs
    refine hg _ n2 rx (is i d acc hd a4 a5) _ fun σ2 γ2 n3 l3 s3 t3 => ⟨?_, ?_⟩
    · exact (wipe_ext (js := vs) l3 fun i hi => s3 i fun z => hi (hj i z)).trans (wipe_ext (wipe_length _ _) fun i hi => wipe_at σ hi)
    · have hD' : H'' D = some (.lst ws) := x2.keep _ _ nb a1 .lst
      have fD : F2 D = none := by rw [x2.new _ _ a1 .lst]; exact a2
      refine ht _ n3 t3 _ fun c F3 H3 x3 t4 => ?_
      have y3 := (xx.trans x2).trans x3
      have hD3 : H3 D = some (.lst ws) := x3.keep _ _ nb hD' .lst
      have fD3 : F3 D = none := by rw [x3.new _ _ hD' .lst]; exact fD
      cases c with
      | true =>
        refine iteT (he _ (n3.to x3) t4 _ fun v d2 F4 H4 x4 r4 t5 => ?_)
        have hD4 : H4 D = some (.lst ws) := x4.keep _ _ nb hD3 .lst
        have fD4 : F4 D = none := by rw [x4.new _ _ hD3 .lst]; exact fD3
        have y4 := y3.trans x4
        refine ⟨ws, hD4, ?_, F4, ws ++ [v], acc ++ [d2], y4.wr hD fD4 nb hD4 .lst (fun _ z => by cases z), upd_same, fD4, (a3.mono (x2.grow.trans (x3.grow.trans x4.grow))).append (.cons r4 .nil), ?_, t5⟩
        · have hl := a3.length
          exact Nat.lt_of_le_of_lt (show ws.length ≤ 100000 by omega) (by decide)
        · rw [List.length_append]
          show acc.length + 1 ≤ i + 1
          omega
      | false =>
        exact iteF ⟨F3, ws, acc, y3, hD3, fD3, a3.mono (x2.grow.trans x3.grow), Nat.le_succ_of_le a4, t4⟩
  · rintro H' ⟨F', ws, acc, x, a1, a2, a3, a4, a5⟩
    exact q D ws acc F' H' (x1.trans x) (x1.back n.ok hD) a1 a2 a3 (id acc a4 a5)
end
end DL

namespace DL
open PySem PySem.Spec PyProof.Rows L2
/-! ### a list of one's own is lent for an expression that keeps nothing of it -/
mutual
def noLst : Dt → Bool
  | .lst _ => false
  | .tup xs => noLstL xs
  | .ins _ _ => false
  | .dT _ => false
  | .dK _ => false
  | .exc _ _ => false
  | .lam _ _ => false
  | .clo _ _ => false
  | _ => true
def noLstL : List Dt → Bool
  | [] => true
  | x :: xs => noLst x && noLstL xs
end
def less (F : Hp) (l : Addr) : Hp := fun a => if a = l then none else F a
theorem less_ne {F : Hp} {l a : Addr} (h : a ≠ l) : less F l a = F a := if_neg h
theorem less_at {F : Hp} {l : Addr} : less F l l = none := if_pos rfl
theorem less_sub {F : Hp} {l : Addr} : Sub (less F l) F := fun a o h => by
  by_cases e : a = l
  · rw [e, less_at] at h; cases h
  · rw [less_ne e] at h; exact h
section
variable {b : Bg} {F H : Hp}
mutual
theorem rep_less {l : Addr} {xs : List V} (hl : F l = some (.lst xs)) : ∀ {d : Dt} {v : V}, Rep b F v d → noLst d = true → Rep b (less F l) v d
  | .non, _, h, _ => by cases h; exact .non
  | .bl _, _, h, _ => by cases h; exact .bl _
  | .int _, _, h, _ => by cases h; exact .int _
  | .str _, _, h, _ => by cases h; exact .str _
  | .lst xs, _, h, p => by cases p
  | .tup xs, _, h, p => by
    cases h with
    | tup e r => exact .tup (by rw [less_ne (fun z => by rw [z, hl] at e; cases e)]; exact e) (repL_less hl r p)
  | .ins C fs, _, h, p => by cases p
  | .dT kvs, _, h, p => by cases p
  | .dK kvs, _, h, p => by cases p
  | .ptr _, _, h, p => by cases h; exact .ptr _
  | .bag, _, h, p => by
    cases h with
    | bag e => exact .bag e
  | .exc _ _, _, h, p => by cases p
  | .lam _ _, _, h, p => by cases p
  | .clo _ _, _, h, p => by cases p
theorem repL_less {l : Addr} {xs : List V} (hl : F l = some (.lst xs)) : ∀ {ds : List Dt} {vs : List V}, RepL b F vs ds → noLstL ds = true → RepL b (less F l) vs ds
  | [], _, h, _ => by cases h; exact .nil
  | d :: ds, _, h, p => by
    cases h with
    | cons r t =>
      have p2 : (noLst d && noLstL ds) = true := p
      rw [Bool.and_eq_true] at p2
      exact .cons (rep_less hl r p2.1) (repL_less hl t p2.2)
end
end
mutual
/-- no dict and no instance within -/
def noObj : Dt → Bool
  | .lst xs => noObjL xs
  | .tup xs => noObjL xs
  | .ins _ _ => false
  | .dT _ => false
  | .dK _ => false
  | .exc _ _ => false
  | .lam _ _ => false
  | .clo _ _ => false
  | _ => true
def noObjL : List Dt → Bool
  | [] => true
  | x :: xs => noObj x && noObjL xs
end
@[reducible] def objK : Dt → Bool
  | .lst _ => false
  | _ => true
mutual
theorem rep_lessO {b : Bg} {F : Hp} {l : Addr} {u : HO} (hl : F l = some u) (n1 : ∀ vs, u ≠ .lst vs) (n2 : ∀ vs, u ≠ .tup vs) : ∀ {d : Dt} {v : V}, Rep b F v d → noObj d = true → Rep b (less F l) v d
  | .non, _, h, _ => by cases h; exact .non
  | .bl _, _, h, _ => by cases h; exact .bl _
  | .int _, _, h, _ => by cases h; exact .int _
  | .str _, _, h, _ => by cases h; exact .str _
  | .lst xs, _, h, p => by
    cases h with
    | lst e r => exact .lst (by rw [less_ne (fun z => by rw [z, hl] at e; exact n1 _ (Option.some.inj e))]; exact e) (repL_lessO hl n1 n2 r p)
  | .tup xs, _, h, p => by
    cases h with
    | tup e r => exact .tup (by rw [less_ne (fun z => by rw [z, hl] at e; exact n2 _ (Option.some.inj e))]; exact e) (repL_lessO hl n1 n2 r p)
  | .ins C fs, _, h, p => by cases p
  | .dT kvs, _, h, p => by cases p
  | .dK kvs, _, h, p => by cases p
  | .ptr _, _, h, p => by cases h; exact .ptr _
  | .bag, _, h, p => by
    cases h with
    | bag e => exact .bag e
  | .exc _ _, _, h, p => by cases p
  | .lam _ _, _, h, p => by cases p
  | .clo _ _, _, h, p => by cases p
theorem repL_lessO {b : Bg} {F : Hp} {l : Addr} {u : HO} (hl : F l = some u) (n1 : ∀ vs, u ≠ .lst vs) (n2 : ∀ vs, u ≠ .tup vs) : ∀ {ds : List Dt} {vs : List V}, RepL b F vs ds → noObjL ds = true → RepL b (less F l) vs ds
  | [], _, h, _ => by cases h; exact .nil
  | d :: ds, _, h, p => by
    cases h with
    | cons r t =>
      have p2 : (noObj d && noObjL ds) = true := p
      rw [Bool.and_eq_true] at p2
      exact .cons (rep_lessO hl n1 n2 r p2.1) (repL_lessO hl n1 n2 t p2.2)
end
theorem RepO.kind {b : Bg} {F : Hp} {u : HO} {o : Dt} (r : RepO b F u o) (k : objK o = true) : (∀ vs, u ≠ .lst vs) ∧ ∀ vs, u ≠ .tup vs := by
  cases r with
  | lst r => cases k
  | ins r => exact ⟨fun _ z => (by cases z), fun _ z => (by cases z)⟩
  | dT r => exact ⟨fun _ z => (by cases z), fun _ z => (by cases z)⟩
  | dK r => exact ⟨fun _ z => (by cases z), fun _ z => (by cases z)⟩
@[reducible] def dLend (i : Nat) (T : DT) : DT := fun γ P => match gat γ i with
  | .own _ xs => T (gset γ i (.val (.lst xs))) fun d => noLst d = true ∧ P d
  | .obj _ o => objK o = true ∧ T (gset γ i (.val o)) fun d => noObj d = true ∧ P d
  | _ => False
section
variable {X : Cx} {b : Bg} {e e1 e2 e3 tg : Expr} {es : List Expr} {pos : Pos} {K : PySem.W.Frag} {Fx : Hp}
theorem lend_coreG {Fm F0 H0 F H : Hp} {σ : L2.St} {γ : Gm} (n : Nv b Fm F0 H0 F H σ γ) {i : Nat} {l : Addr} {u : HO} {d : Dt} (ea : (gat γ i).adr = some l) (h1 : σ[i]? = some (some (.ref l))) (h2 : H l = some u) (h3 : RepO b F u d) (h4 : F l = none) (h5 : H0 l = none) (h6 : b.bag ≠ some l) :
    Nv b F F0 H0 (upd F l u) H σ (gset γ i (.val d)) ∧ ∀ F' H', Ext b (upd F l u) H F' H' → F' l = some u ∧ Ext b F H (less F' l) H' := by
  obtain ⟨n2, g⟩ := n.freezeG ea h1 h2 h3 h4 h5 h6
  refine ⟨⟨n2.ok0, g, n2.ext, n2.len, n2.slot, n2.dis⟩, fun F' H' y => ?_⟩
  · have fl : F' l = some u := y.grow _ _ upd_same
    refine ⟨fl, y.keep, fun a o z => ?_, less_sub.trans y.sub, fun a o z ne => ?_, ?_, fun a o z => y.nt a o (less_sub _ _ z), y.tbl, y.tabs, y.cell⟩
    · rw [less_ne (ne_of_none z h4)]
      exact y.grow _ _ (g _ _ z)
    · by_cases ea : a = l
      · rw [ea, less_at, h4]
      · rw [less_ne ea, y.new a o z ne, upd_ne ea]
    · have kb := n.ok
      obtain ⟨bg, nm⟩ := b
      cases eb : bg with
      | none => trivial
      | some a =>
        subst eb
        obtain ⟨k0, c, cs, i2, v2, m, z, q1, q2, q3⟩ := n.ok.2.1
        obtain ⟨k0', c', cs', i2', v2', m', z', q1', q2', q3'⟩ := y.bag
        obtain ⟨c2, r', hr, qc⟩ := y.cell a c _ rfl q2
        have ec : c' = c2 := by
          rw [q2'] at hr
          injection hr with hr
          injection hr with hr
          injection hr with hr1 hr2
          injection hr1
        have cl : c' ≠ l := by
          rw [ec]
          rcases qc with z | z
          · rw [z]; exact ne_of_none q1 h4
          · exact (ne_of_none h2 z).symm
        have al : a ≠ l := fun z => h6 (congrArg some z)
        exact ⟨by rw [less_ne al]; exact k0', c', cs', i2', v2', m', z', by rw [less_ne cl]; exact q1', q2', q3'⟩
theorem lend_core {Fm F0 H0 F H : Hp} {σ : L2.St} {γ : Gm} (n : Nv b Fm F0 H0 F H σ γ) {i : Nat} {l : Addr} {xs : List Dt} (e : gat γ i = .own l xs) : ∃ vs, H l = some (.lst vs) ∧ Nv b F F0 H0 (upd F l (.lst vs)) H σ (gset γ i (.val (.lst xs))) ∧
    ∀ F' H', Ext b (upd F l (.lst vs)) H F' H' → F' l = some (.lst vs) ∧ Ext b F H (less F' l) H' := by
  have hi := n.slot i
  rw [e] at hi
  obtain ⟨vs, h1, h2, h3, h4, h5, h6⟩ := hi
  obtain ⟨a1, a2⟩ := lend_coreG n (d := .lst xs) (by rw [e]; rfl) h1 h2 (.lst h3) h4 h5 h6
  exact ⟨vs, h2, a1, a2⟩
theorem de_lend {te : TE} {T : DT} (i : Nat) (h : DE b te T) : DE b te (dLend i T) := fun {Fm F0 H0 F H σ γ} P n t Q q => by
  unfold dLend at t
  cases e : gat γ i with
  | un => rw [e] at t; exact t.elim
  | val d => rw [e] at t; exact t.elim
  | own l xs =>
    rw [e] at t
    obtain ⟨vs, h2, nl, core⟩ := lend_core n e
    exact h _ nl t Q fun v d F' H' y r p => q v d (less F' l) H' (core F' H' y).2 (rep_less (core F' H' y).1 r p.1) p.2
  | obj l o =>
    rw [e] at t
    have hi := n.slot i
    rw [e] at hi
    obtain ⟨u, h1, h2, h3, h4, h5, h6⟩ := hi
    obtain ⟨nl, core⟩ := lend_coreG n (d := o) (by rw [e]; rfl) h1 h2 h3 h4 h5 h6
    obtain ⟨k1, k2⟩ := h3.kind t.1
    exact h _ nl t.2 Q fun v d F' H' y r p => q v d (less F' l) H' (core F' H' y).2 (rep_lessO (core F' H' y).1 k1 k2 r p.1) p.2
  | hid l d => rw [e] at t; exact t.elim
@[reducible] def bLend (i : Nat) (T : DBt) : DBt := fun γ P => match gat γ i with
  | .own _ xs => T (gset γ i (.val (.lst xs))) P
  | .obj _ o => T (gset γ i (.val o)) P
  | _ => False
theorem db_lend {tt : TT} {T : DBt} (i : Nat) (h : DB b tt T) : DB b tt (bLend i T) := fun {Fm F0 H0 F H σ γ} P n t Q q => by
  unfold bLend at t
  cases e : gat γ i with
  | un => rw [e] at t; exact t.elim
  | val d => rw [e] at t; exact t.elim
  | own l xs =>
    rw [e] at t
    obtain ⟨vs, h2, nl, core⟩ := lend_core n e
    exact h _ nl t Q fun c F' H' y p => q c (less F' l) H' (core F' H' y).2 p
  | obj l o =>
    rw [e] at t
    have hi := n.slot i
    rw [e] at hi
    obtain ⟨u, h1, h2, h3, h4, h5, h6⟩ := hi
    obtain ⟨nl, core⟩ := lend_coreG n (d := o) (by rw [e]; rfl) h1 h2 h3 h4 h5 h6
    exact h _ nl t Q fun c F' H' y p => q c (less F' l) H' (core F' H' y).2 p
  | hid l d => rw [e] at t; exact t.elim
theorem t_lend (i : Nat) (h : XT X b e T) : XT X b e (bLend i T) := by
  obtain ⟨_, h1, h2⟩ := h
  exact ⟨_, h1, db_lend i h2⟩
theorem x_lend (i : Nat) (h : XE X b e T) : XE X b e (dLend i T) := by
  obtain ⟨_, h1, h2⟩ := h
  exact ⟨_, h1, de_lend i h2⟩
/-! ### one reading for a family of contexts -/
theorem XE.all {ι : Type} {Y : ι → Cx} {T : DT} (h : ∀ i, XE (Y i) b e T) : ∃ te, (∀ i, PE (Y i) e te) ∧ DE b te T :=
  ⟨fun σ H Q => ∀ i, (h i).ex.choose σ H Q, fun i => ⟨fun pins s σ H Q I hw => (h i).ex.choose_spec.1.run pins s σ H Q I (hw i)⟩, fun P n t Q q i => (h i).ex.choose_spec.2 P n t Q q⟩
theorem XTs.all {ι : Type} {Y : ι → Cx} {T : DBt} (h : ∀ i, XTs (Y i) b es T) : ∃ te, (∀ i, PTs (Y i) es te) ∧ DB b te T :=
  ⟨fun σ H Q => ∀ i, (h i).ex.choose σ H Q, fun i => ⟨fun pins s σ H Q I hw => (h i).ex.choose_spec.1.run pins s σ H Q I (hw i)⟩, fun P n t Q q i => (h i).ex.choose_spec.2 P n t Q q⟩
theorem XG.all {ι : Type} {Y : ι → Cx} {T} {js : List Nat} (h : ∀ i, XG (Y i) b e T js) : ∃ te, (∀ i, PG (Y i) e te) ∧ DG b te T js :=
  ⟨fun v σ H Q => ∀ i, (h i).ex.choose v σ H Q, fun i => ⟨fun pins s σ H v u Q I r hw => (h i).ex.choose_spec.1.run pins s σ H v u Q I r (hw i)⟩, fun {Fm F0 H0 F H σ γ} P {v d} n r t Q q i => (h i).ex.choose_spec.2 P n r t Q q⟩
theorem ts_nil : XTs X b [] (fun _ P => P true) := ⟨_, pts_nil, fun P n t Q q => q true _ _ (Ext.refl n.ok) t⟩
theorem ts_one (h : XT X b e T) : XTs X b [e] T := by
  obtain ⟨_, h1, h2⟩ := h
  exact ⟨_, pts_one h1, h2⟩
abbrev Bix := Shared × Hp × Addr × List (Str × Addr) × List Addr
abbrev Cx.blkI (X : Cx) (scope : Scope) (i : Bix) : Cx := X.blk i.1 i.2.1 scope (compEnvC scope i.2.2.2.1 i.2.2.1 X.env) i.2.2.2.2
theorem l_lc {elt tg iter : Expr} {ifs : List Expr} {scope : Scope} {own : List (Str × Nat)} {js vs : List Nat} {TI : DAt} {Tg : Dt → Gm → (Gm → Prop) → Prop} {Tt : DBt} {Te : DT} (hc : X.calm = true) (hN : X.N.Nodup) (hi : XI X b tg iter TI) (ok : BlkOk X.N X.env.scope scope own)
    (hg : ∀ i : Bix, XG (Cx.blkI X scope i) b tg Tg js) (ht : ∀ i : Bix, XTs (Cx.blkI X scope i) b ifs Tt) (he : ∀ i : Bix, XE (Cx.blkI X scope i) b elt Te) (hj : ∀ i, i ∈ js → i ∈ vs) (hv : own.map (·.2) = vs := by rfl) (hs : ∀ x, foldedSetIterable iter X.env x = pure x := by intro _; rfl) :
    XL X b (.ListComp elt [⟨tg, iter, ifs, 0⟩] scope pos) (dLc TI Tg Tt Te vs) := by
  subst hv
  obtain ⟨_, i1, i2⟩ := hi
  obtain ⟨g, g1, g2⟩ := XG.all hg
  obtain ⟨tt, t1, t2⟩ := XTs.all ht
  obtain ⟨te, e1, e2⟩ := XE.all he
  exact ⟨_, pe_lc hc hN i1 ok (fun s H C cl fp => g1 (s, H, C, cl, fp)) (fun s H C cl fp => t1 (s, H, C, cl, fp)) (fun s H C cl fp => e1 (s, H, C, cl, fp)) hs, dl_lc i2 g2 t2 e2 hj⟩
/-! ### statements -/
@[reducible] def sNext : DSt := fun E γ => E.nx γ
@[reducible] def sSeq (t u : DSt) : DSt := fun E γ => t { E with nx := fun γ' => u E γ' } γ
theorem ss_nil : XSs X b [] sNext := ⟨_, pss_nil, fun E n t D k => k.nx n t⟩
theorem ss_one {st : Stmt} (h : XS X b st t) : XSs X b [st] t := by
  obtain ⟨_, h1, h2⟩ := h
  exact ⟨_, pss_one h1, h2⟩
theorem ss_cons {st : Stmt} {r : List Stmt} (h : XS X b st t) (g : XSs X b r u) : XSs X b (st :: r) (sSeq t u) := by
  obtain ⟨_, h1, h2⟩ := h; obtain ⟨_, g1, g2⟩ := g
  exact ⟨_, pss_cons h1 g1, fun E n t D k => h2 _ n t _ ⟨fun n' t' => g2 _ n' t' D k, k.rt, k.bk, k.ct⟩⟩
theorem s_pass : XS X b (.Pass pos) sNext := ⟨_, ps_pass, fun E n t D k => k.nx n t⟩
theorem s_doc {x j p2} : XS X b (.Expr (.Constant (.str x) j pos) p2) sNext := ⟨_, ps_doc, fun E n t D k => k.nx n t⟩
theorem s_break : XS X b (.Break pos) (fun E γ => E.bk γ) := ⟨_, ps_break, fun E n t D k => k.bk n t⟩
theorem s_continue : XS X b (.Continue pos) (fun E γ => E.ct γ) := ⟨_, ps_continue, fun E n t D k => k.ct n t⟩
@[reducible] def sRet (Ta : DT) : DSt := fun E γ => Ta γ (E.rt γ)
theorem s_ret (h : XE X b e Ta) : XS X b (.Return (some e) pos) (sRet Ta) := by
  obtain ⟨_, h1, h2⟩ := h
  exact ⟨_, ps_ret h1, fun E n t D k => h2 _ n t _ fun v d F' H' x r p => k.rt (n.to x) r p⟩
theorem s_retN : XS X b (.Return none pos) (fun E γ => E.rt γ .non) := ⟨_, ps_retN, fun E n t D k => k.rt n .non t⟩
/-- a list of one's own is handed back -/
@[reducible] def sRetO (i : Nat) : DSt := fun E γ => match gat γ i with | .own _ xs => E.rt (gset γ i (.val (.lst xs))) (.lst xs) | .obj _ o => E.rt (gset γ i (.val o)) o | .val d => E.rt γ d | _ => False
theorem s_retO (i : Nat) {x : Str} {p1 : Pos} (hN : X.N[i]? = some x := by rfl) (hv : Vis X.env.scope x := by first | exact Or.inl rfl | exact Or.inr (Or.inl rfl) | exact Or.inr (Or.inr rfl)) (hd : (x == ("__debug__" : Str)) = false := by decide)
    (hcd : (x == ("__classdict__" : Str)) = false := by decide) : XS X b (.Return (some (.Name x p1)) pos) (sRetO i) := by
  refine ⟨_, ps_ret (pe_var hN hv hd hcd), fun {Fm F0 H0 F H σ γ} E n t D k => ?_⟩
  unfold sRetO at t
  have hi := n.slot i
  cases e : gat γ i with
  | un => rw [e] at t; exact t.elim
  | val d =>
    rw [e] at t hi
    obtain ⟨v, h1, h2⟩ := hi
    exact ⟨v, h1, k.rt n h2 t⟩
  | own l xs =>
    rw [e] at t hi
    obtain ⟨vs, h1, h2, h3, h4, h5, h6⟩ := hi
    obtain ⟨n', g⟩ := n.freezeG (d := .lst xs) (by rw [e]; rfl) h1 h2 (.lst h3) h4 h5 h6
    exact ⟨_, h1, k.rt n' ((RepO.lst (h3.mono g)).rep upd_same) t⟩
  | obj l o =>
    rw [e] at t hi
    obtain ⟨u, h1, h2, h3, h4, h5, h6⟩ := hi
    obtain ⟨n', g⟩ := n.freezeG (d := o) (by rw [e]; rfl) h1 h2 h3 h4 h5 h6
    exact ⟨_, h1, k.rt n' ((h3.mono g).rep upd_same) t⟩
  | hid l d => rw [e] at t; exact t.elim
@[reducible] def sDrop (Ta : DT) : DSt := fun E γ => Ta γ fun _ => E.nx γ
theorem s_expr (h : XE X b e Ta) (hs : swapsWith e none pos.line X.env = pure false := by rfl) : XS X b (.Expr e pos) (sDrop Ta) := by
  obtain ⟨_, h1, h2⟩ := h
  exact ⟨_, ps_expr h1 hs, fun E n t D k => h2 _ n t _ fun v d F' H' x r p => k.nx (n.to x) p⟩
@[reducible] def sSet (i : Nat) (Ta : DT) : DSt := fun E γ => Ta γ fun d => E.nx (gset γ i (.val d))
theorem s_set {i : Nat} {x : Str} {p2 : Pos} (hN : X.N.Nodup) (hi : X.N[i]? = some x) (hx : Loc X.env.scope x) (h : XE X b e Ta) (hs : swapsWith e (some (.Name x p2)) pos.line X.env = pure false := by rfl) (hf : X.fn x = true ∨ X.env.scope.names.lookup x = some .local := by first | exact .inl rfl | exact .inr rfl | assumption) :
    XS X b (.Assign [.Name x p2] e pos) (sSet i Ta) := by
  obtain ⟨_, h1, h2⟩ := h
  exact ⟨_, ps_set hN hi hx h1 hs hf, fun E n t D k => h2 _ n t _ fun v d F' H' x r p => k.nx ((n.to x).set i r) p⟩
@[reducible] def sSetL (i : Nat) (Tl : DAt) : DSt := fun E γ => Tl γ fun xs => ∀ l, E.nx (gset γ i (.own l xs))
theorem ds_setL {i : Nat} {te : TE} {Tl : DAt} (h2 : DLs b te Tl) : DS b (tAsg te (gName i)) (sSetL i Tl) := fun {Fm F0 H0 F H σ γ} E n t D k => h2 _ n t _ fun p vs xs F' H' x hp hl hf r pp => by
  refine k.nx ((n.to x).setOwn i hl r hf (n.ext.back n.ok0 hp) (n.ok.nb hp) fun j a hj hq => ?_) (pp p)
  obtain ⟨u, h2⟩ := n.there hj
  rw [hq, hp] at h2
  cases h2
theorem s_setL {i : Nat} {x : Str} {p2 : Pos} (hN : X.N.Nodup) (hi : X.N[i]? = some x) (hx : Loc X.env.scope x) (h : XL X b e Tl) (hs : swapsWith e (some (.Name x p2)) pos.line X.env = pure false := by rfl) (hf : X.fn x = true ∨ X.env.scope.names.lookup x = some .local := by first | exact .inl rfl | exact .inr rfl | assumption) :
    XS X b (.Assign [.Name x p2] e pos) (sSetL i Tl) := by
  obtain ⟨_, h1, h2⟩ := h
  exact ⟨_, ps_set hN hi hx h1 hs hf, ds_setL h2⟩
/-- name = [.. for ..] -/
theorem s_setLc {i : Nat} {y : Str} {py : Pos} {elt tg iter : Expr} {ifs : List Expr} {scope : Scope} {own : List (Str × Nat)} {p2 : Pos} {js vs : List Nat} {TI : DAt} {Tg : Dt → Gm → (Gm → Prop) → Prop} {Tt : DBt} {Te : DT} (hc : X.calm = true) (hN : X.N.Nodup) (hy : X.N[i]? = some y) (hyl : X.env.scope.names.lookup y = some .local)
    (hsw : swapsWith (.ListComp elt [⟨tg, iter, ifs, 0⟩] scope p2) (some (.Name y py)) pos.line X.env = pure true) (hi : XI X b tg iter TI) (ok : BlkOk X.N X.env.scope scope own)
    (hg : ∀ i : Bix, XG (Cx.blkI X scope i) b tg Tg js) (ht : ∀ i : Bix, XTs (Cx.blkI X scope i) b ifs Tt) (he : ∀ i : Bix, XE (Cx.blkI X scope i) b elt Te) (hj : ∀ i, i ∈ js → i ∈ vs) (hv : own.map (·.2) = vs := by rfl) (hs : ∀ x, foldedSetIterable iter X.env x = pure x := by intro _; rfl) :
    XS X b (.Assign [.Name y py] (.ListComp elt [⟨tg, iter, ifs, 0⟩] scope p2) pos) (sSetL i (dLc TI Tg Tt Te vs)) := by
  subst hv
  obtain ⟨_, i1, i2⟩ := hi
  obtain ⟨g, g1, g2⟩ := XG.all hg
  obtain ⟨tt, t1, t2⟩ := XTs.all ht
  obtain ⟨te, e1, e2⟩ := XE.all he
  exact ⟨_, ps_setLc hc hN hy hyl hsw i1 ok (fun s H C cl fp => g1 (s, H, C, cl, fp)) (fun s H C cl fp => t1 (s, H, C, cl, fp)) (fun s H C cl fp => e1 (s, H, C, cl, fp)) hs, ds_setL (dl_lc i2 g2 t2 e2 hj)⟩
/-- a list of one's own counts as a value from here on -/
@[reducible] def sFrz (i : Nat) (T : DSt) : DSt := fun E γ => match gat γ i with | .own _ xs => T E (gset γ i (.val (.lst xs))) | .obj _ o => T E (gset γ i (.val o)) | _ => T E γ
theorem DS.frz {ts : TS} {T : DSt} (i : Nat) (h : DS b ts T) : DS b ts (sFrz i T) := fun {Fm F0 H0 F H σ γ} E n t D k => by
  unfold sFrz at t
  cases e : gat γ i with
  | un => rw [e] at t; exact h E n t D k
  | val d => rw [e] at t; exact h E n t D k
  | own l xs =>
    rw [e] at t
    obtain ⟨F', n', g⟩ := n.freeze e
    exact h E n' t D k
  | obj l o =>
    rw [e] at t
    obtain ⟨F', n', g⟩ := n.freezeO e
    exact h E n' t D k
  | hid l d => rw [e] at t; exact h E n t D k
theorem s_frz {st : Stmt} (i : Nat) (h : XS X b st T) : XS X b st (sFrz i T) := by
  obtain ⟨_, h1, h2⟩ := h
  exact ⟨_, h1, h2.frz i⟩
theorem ss_frz {st : List Stmt} (i : Nat) (h : XSs X b st T) : XSs X b st (sFrz i T) := by
  obtain ⟨_, h1, h2⟩ := h
  exact ⟨_, h1, h2.frz i⟩
@[reducible] def sPar (i j : Nat) (Ta : DAt) : DSt := fun E γ => Ta γ fun ds => match ds with | [d1, d2] => E.nx (gset (gset γ i (.val d1)) j (.val d2)) | _ => False
theorem s_par {i j : Nat} {x y : Str} {a c : Expr} {px py pt : Pos} {kt k2 pt2} (hc : X.calm = true) (hN : X.N.Nodup) (hi : X.N[i]? = some x) (hj : X.N[j]? = some y) (hij : i ≠ j)
    (hx : X.env.scope.names.lookup x = some .local) (hy : X.env.scope.names.lookup y = some .local) (ha : XA X b [a, c] Ta)
    (hw : swappedStores [.Tuple [.Name x px, .Name y py] kt pt] (.Tuple [a, c] k2 pt2) X.env = pure (some [x, y]))
    (hs : swapsWithSole [.Tuple [.Name x px, .Name y py] kt pt] (.Tuple [a, c] k2 pt2) pos.line X.env = pure false := by rfl) :
    XS X b (.Assign [.Tuple [.Name x px, .Name y py] kt pt] (.Tuple [a, c] k2 pt2) pos) (sPar i j Ta) := by
  obtain ⟨_, h1, h2⟩ := ha
  refine ⟨_, ps_par hc hN hi hj hij hx hy h1 hw hs, fun E n t D k => h2 _ n t _ fun vs ds F' H' x r p => ?_⟩
  cases r with
  | nil => exact p.elim
  | cons ra rb =>
    cases rb with
    | nil => exact p.elim
    | cons rb rc =>
      cases rc with
      | cons _ _ => exact p.elim
      | nil => exact ⟨_, _, rfl, k.nx (((n.to x).set i ra).set j rb) p⟩
@[reducible] def sPar3 (i j l : Nat) (Ta : DAt) : DSt := fun E γ => Ta γ fun ds => match ds with | [d1, d2, d3] => E.nx (gset (gset (gset γ i (.val d1)) j (.val d2)) l (.val d3)) | _ => False
theorem s_par3 {i j l : Nat} {x y z : Str} {a c d : Expr} {px py pz pt : Pos} {kt k2 pt2} (hc : X.calm = true) (hN : X.N.Nodup) (hi : X.N[i]? = some x) (hj : X.N[j]? = some y) (hl : X.N[l]? = some z) (hij : i ≠ j) (hil : i ≠ l) (hjl : j ≠ l)
    (hx : X.env.scope.names.lookup x = some .local) (hy : X.env.scope.names.lookup y = some .local) (hz : X.env.scope.names.lookup z = some .local) (ha : XA X b [a, c, d] Ta)
    (hw : swappedStores [.Tuple [.Name x px, .Name y py, .Name z pz] kt pt] (.Tuple [a, c, d] k2 pt2) X.env = pure (some [x, y, z]))
    (hs : swapsWithSole [.Tuple [.Name x px, .Name y py, .Name z pz] kt pt] (.Tuple [a, c, d] k2 pt2) pos.line X.env = pure false := by rfl) :
    XS X b (.Assign [.Tuple [.Name x px, .Name y py, .Name z pz] kt pt] (.Tuple [a, c, d] k2 pt2) pos) (sPar3 i j l Ta) := by
  obtain ⟨_, h1, h2⟩ := ha
  refine ⟨_, ps_par3 hc hN hi hj hl hij hil hjl hx hy hz h1 hw hs, fun E n t D k => h2 _ n t _ fun vs ds F' H' x r p => ?_⟩
  cases r with
  | nil => exact p.elim
  | cons ra rb =>
    cases rb with
    | nil => exact p.elim
    | cons rb rc =>
      cases rc with
      | nil => exact p.elim
      | cons rc rd =>
        cases rd with
        | cons _ _ => exact p.elim
        | nil => exact ⟨_, _, _, rfl, k.nx ((((n.to x).set i ra).set j rb).set l rc) p⟩
@[reducible] def sAsg (Ta : DT) (Tg : Dt → Gm → (Gm → Prop) → Prop) : DSt := fun E γ => Ta γ fun d => Tg d γ E.nx
theorem s_asg {js : List Nat} (h : XE X b e Ta) (g : XG X b tg Tg js) (hs : swapsWithSole [tg] e pos.line X.env = pure false := by rfl) (hw : swappedStores [tg] e X.env = pure none := by rfl) (hh : (assignEach [tg] X.env).map (·.2) = [assign tg X.env] := by rfl) : XS X b (.Assign [tg] e pos) (sAsg Ta Tg) := by
  obtain ⟨_, h1, h2⟩ := h; obtain ⟨_, g1, g2⟩ := g
  exact ⟨_, ps_asg h1 g1 hs hw hh, fun E n t D k => h2 _ n t _ fun v d F' H' x r p => g2 _ (n.to x) r p _ fun σ' γ' n' _ _ p' => k.nx n' p'⟩
theorem g_tup' {k : Nat} {js : List Nat} {m : Nat} (hc : X.calm = true) (h : XGs X b es U js) (hn : (assignEach es X.env).length = m := by rfl) (hst : (assignEach es X.env).findIdx? (·.1) = none := by rfl) : XG X b (.Tuple es k pos) (gTu m U) js := by
  obtain ⟨_, h1, h2⟩ := h
  refine ⟨_, pg_tup hc h1 hn hst, fun {Fm F0 H0 F H σ γ} P {v d} n r t Q q => ?_⟩
  cases r <;> first | exact t.elim | skip
  rename_i hh r
  exact ⟨_, _, rfl, SqT.of (n.ok.1 _ _ hh), by rw [r.length]; exact t.1, h2 _ n r t.2 _ q⟩
@[reducible] def sIf (A : DBt) (t u : DSt) : DSt := fun E γ => A γ fun c => (match c with | true => t E γ | false => u E γ)
theorem s_if {c : Expr} {p q : List Stmt} (hc : XT X b c A) (h : XSs X b p t) (g : XSs X b q u) : XS X b (.If c p q pos) (sIf A t u) := by
  obtain ⟨_, c1, c2⟩ := hc; obtain ⟨_, h1, h2⟩ := h; obtain ⟨_, g1, g2⟩ := g
  refine ⟨_, ps_if c1 h1 g1, fun E n t D k => c2 _ n t _ fun c F' H' x p => ?_⟩
  cases c with
  | true => exact iteT (h2 E (n.to x) p D k)
  | false => exact iteF (g2 E (n.to x) p D k)
/-- a list of one's own grows -/
@[reducible] def sApp (i : Nat) (Ta : DT) : DSt := fun E γ => match gat γ i with | .own l xs => Ta γ fun d => xs.length < 100000 ∧ E.nx (gset γ i (.own l (xs ++ [d]))) | _ => False
theorem s_app (i : Nat) {x : Str} {apos p1 p2 : Pos} (ha : XE X b e Ta) (hN : X.N[i]? = some x := by rfl) (hv : Vis X.env.scope x := by first | exact Or.inl rfl | exact Or.inr (Or.inl rfl) | exact Or.inr (Or.inr rfl)) (hd : (x == ("__debug__" : Str)) = false := by decide)
    (hcd : (x == ("__classdict__" : Str)) = false := by decide) (he : starEach [e] X.env = (false, eval e X.env) :: starEach [] X.env := by rfl)
    (hpe : ∀ {te : TE} {t : TA}, PE X (.Name x p1) te → PA X [e] t → PE X (.Call (.Attribute (.Name x p1) "append" apos) [e] [] p2) (tBM X.K "list" rAppend te t) := by exact fun h g => pe_bm PySem.F.plainAttrs_list PySem.F.slot_list_append PySem.F.type_list_append mt_append h g)
    (hs : swapsWith (.Call (.Attribute (.Name x p1) "append" apos) [e] [] p2) none pos.line X.env = pure false := by rfl) : XS X b (.Expr (.Call (.Attribute (.Name x p1) "append" apos) [e] [] p2) pos) (sApp i Ta) := by
  obtain ⟨_, h1, h2⟩ := ha
  refine ⟨_, ps_expr (hpe (pe_var hN hv hd hcd) (pa_cons h1 pa_nil he)) hs, fun {Fm F0 H0 F H σ γ} E n t D k => ?_⟩
  unfold sApp at t
  have hi := n.slot i
  cases e : gat γ i with
  | un => rw [e] at t; exact t.elim
  | val d => rw [e] at t; exact t.elim
  | obj l d => rw [e] at t; exact t.elim
  | hid l d => rw [e] at t; exact t.elim
  | own l xs =>
    rw [e] at hi t
    obtain ⟨vs, a1, a2, a3, a4, a5, a6⟩ := hi
    refine ⟨_, a1, Or.inl ⟨rfl, vs, SqL.of a2⟩, h2 _ n t _ fun v d F' H' x r p => ?_⟩
    refine ⟨l, vs, v, rfl, rfl, x.keep _ _ a6 a2 .lst, ?_, k.nx ((n.to x).wr e ((a3.mono x.grow).append (.cons r .nil))) p.2⟩
    exact Nat.lt_of_le_of_lt (show vs.length ≤ 100000 by rw [a3.length]; omega) (by decide)
/-- an item of a list of one's own is stored -/
@[reducible] def sSetIx (i : Nat) (Ta Tb : DT) : DSt := fun E γ => match gat γ i with | .own l xs => (Ta γ fun d => Tb γ fun j => match j with | .int z => ∃ n, ixN xs.length z = some n ∧ E.nx (gset γ i (.own l (xs.set n d))) | _ => False) | _ => False
theorem RepL.set {F : Hp} : ∀ {xs : List Dt} {vs : List V} (n : Nat) {v : V} {d : Dt}, RepL b F vs xs → Rep b F v d → RepL b F (vs.set n v) (xs.set n d)
  | _, _, _, _, _, .nil, _ => .nil
  | _, _, 0, _, _, .cons _ t, r => .cons r t
  | _, _, n + 1, _, _, .cons q t, r => .cons q (RepL.set n t r)
theorem s_setIx (i : Nat) {x : Str} {p1 p2 : Pos} (ha : XE X b e Ta) (hj : XE X b e2 Tb) (hN : X.N[i]? = some x := by rfl) (hv : Vis X.env.scope x := by first | exact Or.inl rfl | exact Or.inr (Or.inl rfl) | exact Or.inr (Or.inr rfl)) (hd : (x == ("__debug__" : Str)) = false := by decide)
    (hcd : (x == ("__classdict__" : Str)) = false := by decide)
    (hps : ∀ {te to ti : TE}, PE X e te → PE X (.Name x p1) to → PE X e2 ti → PS X (.Assign [.Subscript (.Name x p1) e2 p2] e pos) (tAsg te (gSub to ti rSetL)) := by exact fun h o i => ps_asg h (pg_sub o i set_list)) :
    XS X b (.Assign [.Subscript (.Name x p1) e2 p2] e pos) (sSetIx i Ta Tb) := by
  obtain ⟨_, h1, h2⟩ := ha; obtain ⟨_, j1, j2⟩ := hj
  refine ⟨_, hps h1 (pe_var hN hv hd hcd) j1, fun {Fm F0 H0 F H σ γ} E n t D k => ?_⟩
  unfold sSetIx at t
  have hi := n.slot i
  cases e : gat γ i with
  | un => rw [e] at t; exact t.elim
  | val d => rw [e] at t; exact t.elim
  | obj l d => rw [e] at t; exact t.elim
  | hid l d => rw [e] at t; exact t.elim
  | own l xs =>
    rw [e] at hi t
    obtain ⟨vs, a1, a2, a3, a4, a5, a6⟩ := hi
    refine h2 _ n t _ fun v d F1 H1 x1 r1 t1 => ⟨_, a1, j2 _ (n.to x1) t1 _ fun w z F2 H2 x2 r2 t2 => ?_⟩
    cases r2 <;> first | exact t2.elim | skip
    obtain ⟨m, t3, t4⟩ := t2
    refine ⟨l, vs, _, m, rfl, rfl, x2.keep _ _ a6 (x1.keep _ _ a6 a2 .lst) .lst, by rw [a3.length]; exact t3, k.nx (((n.to x1).to x2).wr e ((a3.mono (x1.grow.trans x2.grow)).set m (x2.mono r1))) t4⟩
/-- for: Iv the word between the turns -/
@[reducible] def sFor (TI : DAt) (Tg : Dt → Gm → (Gm → Prop) → Prop) (Tb : DSt) : DSt := fun E γ => TI γ fun xs => Word (∃ Iv : Nat → Gm → Prop, Iv 0 γ ∧
  (∀ i d γ', xs[i]? = some d → Iv i γ' → Tg d γ' fun γ2 => Tb { E with nx := Iv (i + 1), ct := Iv (i + 1), bk := E.nx } γ2) ∧ ∀ γ', Iv xs.length γ' → E.nx γ')
theorem s_for {iter : Expr} {body : List Stmt} {js : List Nat} {TI : DAt} {Tg : Dt → Gm → (Gm → Prop) → Prop} {Tb : DSt} (hc : X.calm = true) (hi : XI X b tg iter TI) (g : XG X b tg Tg js) (h : XSs X b body Tb) (hp : PassesOwn (model X.prog X.w) X.A X.env X.xe := by exact PassesOwn.never) (hs : ∀ x, foldedSetIterable iter X.env x = pure x := by intro _; rfl) :
    XS X b (.For tg iter body [] pos) (sFor TI Tg Tb) := by
  obtain ⟨_, i1, i2⟩ := hi; obtain ⟨_, g1, g2⟩ := g; obtain ⟨_, h1, h2⟩ := h
  refine ⟨_, ps_for hp hc i1 g1 h1 hs, fun {Fm F0 H0 F H σ γ} E n t D k => i2 _ n t _ fun J xs Fx H1 x1 w t1 => ?_⟩
  obtain ⟨Iv, i0, is, id⟩ := t1
  obtain ⟨Y, wk, wy⟩ := w.ex
  have fmx : Sub Fm Fx := n.fm.trans x1.grow
  have down : ∀ {F' H' : Hp} {σ' : L2.St} {γ' : Gm}, Nv b Fx F0 H0 F' H' σ' γ' → Nv b Fm F0 H0 F' H' σ' γ' := fun n' => ⟨n'.ok0, fmx.trans n'.fm, n'.ext, n'.len, n'.slot, n'.dis⟩
  refine for_it wk (Pv := fun i σ' H' => ∃ F' γ', Nv b Fx F0 H0 F' H' σ' γ' ∧ Iv i γ') ?_ ?_ ?_ ?_
  · have n1 := n.to x1
    exact ⟨Fx, γ, ⟨n1.ok0, Sub.refl _, n1.ext, n1.len, n1.slot, n1.dis⟩, i0⟩
  · rintro i σ' H' _ ⟨F', γ', n', _⟩
    exact fun a o z => n'.ok.1 a o (n'.fm a o z)
  · rintro i x σ' H' H'' hi ⟨F', γ', n', p⟩ y
    obtain ⟨d, hd, hy⟩ := wy i H' x H'' hi y
    obtain ⟨F2, x2, rx⟩ : ∃ F2, Ext b F' H' F2 H'' ∧ Rep b F2 x d := by
      rcases hy with ⟨rfl, r⟩ | ⟨T, us, ds, rfl, hT, rfl, r, rfl⟩
      · exact ⟨F', Ext.refl n'.ok, r.mono n'.fm⟩
      · exact ⟨_, Ext.push n'.ok hT, .tup upd_same (r.mono (n'.fm.trans (Ext.push n'.ok hT).grow))⟩
    refine g2 _ (n'.to x2) rx (is i d γ' hd p) _ fun σ2 γ2 n3 _ _ t3 => ?_
    exact h2 _ n3 t3 _ ⟨fun n4 p4 => ⟨_, _, n4, p4⟩, fun n4 r4 p4 => k.rt (down n4) r4 p4, fun n4 p4 => k.nx (down n4) p4, fun n4 p4 => ⟨_, _, n4, p4⟩⟩
  · rintro σ' H' ⟨F', γ', n', p⟩
    exact k.nx (down n') (id γ' p)
/-- i += e, of ints -/
@[reducible] def sAug (i : Nat) (f : Int → Int → Int) (Ta : DT) : DSt := fun E γ => match gat γ i with | .val (.int x) => (Ta γ fun d => match d with | .int y => E.nx (gset γ i (.val (.int (f x y)))) | _ => False) | _ => False
theorem s_augAdd {i : Nat} {x : Str} {p2 : Pos} (hN : X.N.Nodup) (hi : X.N[i]? = some x) (hx : Loc X.env.scope x) (h : XE X b e Ta) (hf : X.fn x = true ∨ X.env.scope.names.lookup x = some .local := by first | exact .inl rfl | exact .inr rfl | assumption)
    (hpp : ∀ {te : TE}, PE X e te → PS X (.AugAssign (.Name x p2) .Add e pos) (tAug i te (ipI fun i j => i + j)) := by exact fun h => ps_aug (by assumption) (by assumption) (by assumption) h ip_add) : XS X b (.AugAssign (.Name x p2) .Add e pos) (sAug i (fun i j => i + j) Ta) := by
  obtain ⟨_, h1, h2⟩ := h
  refine ⟨_, hpp h1, fun {Fm F0 H0 F H σ γ} E n t D k => ?_⟩
  unfold sAug at t
  have hi := n.slot i
  cases e : gat γ i with
  | un => rw [e] at t; exact t.elim
  | own l d => rw [e] at t; exact t.elim
  | obj l d => rw [e] at t; exact t.elim
  | hid l d => rw [e] at t; exact t.elim
  | val d =>
    rw [e] at t hi
    cases d <;> first | exact t.elim | skip
    obtain ⟨v, a1, a2⟩ := hi
    cases a2
    refine ⟨_, a1, h2 _ n t _ fun v d F' H' x r p => ?_⟩
    cases r <;> first | exact p.elim | skip
    exact ⟨_, _, rfl, rfl, k.nx ((n.to x).set i (.int _)) p⟩

/-! ### a def keeps what its data say -/
def startD (N : List Str) (ds : List Dt) : Gm := ds.map Sl.val ++ List.replicate (N.length - ds.length) .un
theorem start_nv {Fm F0 H0 : Hp} {N : List Str} {vs : List V} {ds : List Dt} (k : Ok b F0 H0) (r : RepL b F0 vs ds) : Nv b F0 F0 H0 F0 H0 (L2.start N vs) (startD N ds) := by
  have at_ : ∀ (i : Nat), (∃ d v, ds[i]? = some d ∧ vs[i]? = some v ∧ Rep b F0 v d ∧ gat (startD N ds) i = .val d ∧ (L2.start N vs)[i]? = some (some v)) ∨ gat (startD N ds) i = .un := fun i => by
    have gl : ∀ (l : List Dt) (m : Nat) (i : Nat), gat (l.map Sl.val ++ List.replicate m .un) i = (match l[i]? with | some d => .val d | none => .un) := fun l => by
      induction l with
      | nil =>
        intro m
        induction m with
        | zero => intro i; rfl
        | succ m ih =>
          intro i
          cases i with
          | zero => rfl
          | succ i => exact ih i
      | cons a r ih =>
        intro m i
        cases i with
        | zero => rfl
        | succ i =>
          exact ih m i
    have g1 := gl ds (N.length - ds.length) i
    cases e : ds[i]? with
    | none => right; unfold startD; rw [g1, e]
    | some d =>
      left
      obtain ⟨v, h1, h2⟩ := r.get' e
      refine ⟨d, v, rfl, h1, h2, by unfold startD; rw [g1, e], ?_⟩
      unfold L2.start
      have hl := (List.getElem?_eq_some_iff.mp h1).1
      rw [List.getElem?_append_left (by rw [List.length_map]; exact hl), List.getElem?_map, h1]
      rfl
  refine ⟨k, Sub.refl _, Ext.refl k, ?_, fun i => ?_, fun i j a hi hj => ?_⟩
  · unfold L2.start startD
    rw [List.length_append, List.length_append, List.length_map, List.length_map, List.length_replicate, List.length_replicate, r.length]
  · rcases at_ i with ⟨d, v, _, _, h, g, s⟩ | g
    · rw [g]; exact ⟨v, s, h⟩
    · rw [g]; exact True.intro
  · rcases at_ i with ⟨d, v, _, _, h, g, s⟩ | g
    · rw [g] at hi; cases hi
    · rw [g] at hi; cases hi
end
section
variable {P : Program} {w : World} {K : PySem.W.Frag} {mg : Str → Option Value} {base : Heap} {b : Bg}
/-- THE RULE for a def -/
theorem fn_D {x qual : Str} {st : Stmt} {f : Addr} {fd : FuncData} {N ps : List Str} {k : Nat} {T : DSp} (F : Fun K x qual st f fd) (S : FnScope N ps (defScope st))
    (hbody : ∀ (X : Cx) (outer : List Env) (cdv : Value) (A : Around) (s : Shared) (H : Hp) (E : L2.XK), X = (cxOf CX0 P w K mg base N qual (defScope st) f cdv A outer s H E).nox → Room k X.A → ∃ T', XSs (cxOf CX0 P w K mg base N qual (defScope st) f cdv A outer s H E).nox b (defBody st) T' ∧ ∀ (ds : List Dt) (R : Dt → Prop), ds.length = ps.length → T ds R → T' { nx := fun _ => R .non, rt := fun _ => R } (startD N ds)) :
    FnOk P w K mg base CX0 (k + 1) f fd ps (spD b ps.length T) := by
  refine F.ok S (fun vs H Q E h => ?_) (fun cdv A outer s H vs Q E hr h => ?_)
  · obtain ⟨F0, ds, R, h1, h2, h3, _⟩ := h
    rw [h2.length, h3]
  · obtain ⟨F0, ds, R, h1, h2, h3, h4, h5⟩ := h
    obtain ⟨T', ⟨t, t1, t2⟩, t3⟩ := hbody _ outer cdv A s H E rfl hr
    refine ⟨t, t1, t2 _ (start_nv (Fm := F0) h1 h2) (t3 ds R h3 h4) _ ⟨?_, ?_, ?_, ?_⟩⟩
    · intro F' H' σ γ n r
      exact h5 _ _ _ _ n.ext .non r
    · intro F' H' σ γ v d n r p
      exact h5 _ _ _ _ n.ext r p
    · intro F' H' σ γ n r
      exact r.elim
    · intro F' H' σ γ n r
      exact r.elim
end
end DL

namespace DL
open PySem PySem.Spec PyProof.Rows L2
section
variable {X : Cx} {b : Bg} {e e1 e2 e3 tg : Expr} {es : List Expr} {pos : Pos} {K : PySem.W.Frag} {Fx : Hp}
/-! ### chains as tests, stars -/
theorem t_chLeLe (ha : XE X b e1 Ta) (hb : XE X b e2 Tb) (hc : XE X b e3 Tc) (hm : lastMarks [.LtE, .LtE] [e2, e3] = false := by with_unfolding_all rfl) : XT X b (.Compare e1 [.LtE, .LtE] [e2, e3] pos) (tB1 (dChI (fun i j => decide (i ≤ j)) (fun i j => decide (i ≤ j)) Ta Tb Tc)) := by
  obtain ⟨_, h1, h2⟩ := ha; obtain ⟨_, g1, g2⟩ := hb; obtain ⟨_, f1, f2⟩ := hc
  exact ⟨_, pt_chain op_le op_le h1 g1 f1 hm, db_val (de_chain h2 g2 f2)⟩
@[reducible] def aStar (Ta : DT) (Tr : DAt) : DAt := fun γ P => Ta γ fun x => match x with | .lst xs => (Tr γ fun ys => P (xs ++ ys)) | .tup xs => (Tr γ fun ys => P (xs ++ ys)) | _ => False
theorem a_star {p : Pos} (ha : XE X b e Ta) (hr : XA X b es Tr) (hs : starEach (.Starred e p :: es) X.env = (true, eval e X.env) :: starEach es X.env := by rfl) : XA X b (.Starred e p :: es) (aStar Ta Tr) := by
  obtain ⟨_, h1, h2⟩ := ha; obtain ⟨_, g1, g2⟩ := hr
  refine ⟨_, StX.pa_star h1 g1 hs, fun P n t Q q => h2 _ n t _ fun v d F1 H1 x1 r1 t1 => ?_⟩
  cases r1 with
  | lst h r => exact ⟨_, _, rfl, .inr (SqL.of (x1.sub _ _ h)), g2 _ (n.to x1) t1 _ fun vs ds F2 H2 x2 r2 t2 => q _ _ F2 H2 (x1.trans x2) ((r.mono x2.grow).append r2) t2⟩
  | tup h r => exact ⟨_, _, rfl, .inl (SqT.of (x1.sub _ _ h)), g2 _ (n.to x1) t1 _ fun vs ds F2 H2 x2 r2 t2 => q _ _ F2 H2 (x1.trans x2) ((r.mono x2.grow).append r2) t2⟩
  | _ => exact t1.elim
/-! ### keywords: how they come to the parameters -/
@[reducible] def lenEq {α : Type} : List α → Nat → Bool
  | [], n => (match n with | 0 => true | _ + 1 => false)
  | _ :: r, n => (match n with | 0 => false | n + 1 => lenEq r n)
@[reducible] def getN {α : Type} : List α → Nat → Option α
  | [], _ => none
  | x :: _, 0 => some x
  | _ :: r, n + 1 => getN r n
@[reducible] def app {α : Type} : List α → List α → List α
  | [], ys => ys
  | x :: xs, ys => x :: app xs ys
@[reducible] def selGo {α : Type} (l : List α) : List Nat → List α
  | [] => []
  | i :: p => match getN l i with
    | some x => x :: selGo l p
    | none => selGo l p
@[reducible] def sel {α : Type} (n m : Nat) (p : List Nat) (us ws : List α) : List α := match lenEq us n, lenEq ws m with
  | true, true => selGo (app us ws) p
  | _, _ => []
theorem lenEq_len {α : Type} : ∀ {l : List α} {n : Nat}, lenEq l n = true → l.length = n
  | [], 0, _ => rfl
  | [], n + 1, h => by cases h
  | _ :: _, 0, h => by cases h
  | _ :: r, n + 1, h => congrArg (· + 1) (lenEq_len (l := r) h)
theorem lenEq_two {α β : Type} : ∀ {l : List α} {k : List β} {n : Nat}, l.length = k.length → lenEq l n = lenEq k n
  | [], [], 0, _ => rfl
  | [], [], n + 1, _ => rfl
  | [], _ :: _, _, h => by cases h
  | _ :: _, [], _, h => by cases h
  | _ :: _, _ :: _, 0, _ => rfl
  | _ :: r, _ :: s, n + 1, h => lenEq_two (l := r) (k := s) (Nat.succ.inj h)
theorem vals_sel {vs zs : List V} {us ws : List Value} (n m : Nat) (p : List Nat) (r : Vals vs us) (r2 : Vals zs ws) : Vals (sel n m p vs zs) (sel n m p us ws) := by
  have ra : Vals (app vs zs) (app us ws) := by
    induction r with
    | nil => exact r2
    | cons h _ ih => exact .cons h ih
  have rg : ∀ {l : List V} {k : List Value} (i : Nat), Vals l k → (∃ v u, getN l i = some v ∧ getN k i = some u ∧ RelV v u) ∨ (getN l i = none ∧ getN k i = none) := fun {l k} i h => by
    induction h generalizing i with
    | nil => exact .inr ⟨rfl, rfl⟩
    | cons h _ ih =>
      cases i with
      | zero => exact .inl ⟨_, _, rfl, rfl, h⟩
      | succ i => exact ih i
  have rs : ∀ p : List Nat, Vals (selGo (app vs zs) p) (selGo (app us ws) p) := fun p => by
    induction p with
    | nil => exact .nil
    | cons i p ih =>
      unfold selGo
      rcases rg i ra with ⟨v, u, h1, h2, h3⟩ | ⟨h1, h2⟩
      · rw [h1, h2]; exact .cons h3 ih
      · rw [h1, h2]; exact ih
  unfold sel
  rw [lenEq_two (n := n) r.length, lenEq_two (n := m) r2.length]
  cases lenEq us n <;> cases lenEq ws m <;> first | exact rs p | exact .nil
theorem rep_sel {F : Hp} {vs zs : List V} {us ws : List Dt} (n m : Nat) (p : List Nat) (r : RepL b F vs us) (r2 : RepL b F zs ws) : RepL b F (sel n m p vs zs) (sel n m p us ws) := by
  have ra : ∀ {vs : List V} {us : List Dt}, RepL b F vs us → RepL b F (app vs zs) (app us ws) := fun {vs us} r => by
    induction vs generalizing us with
    | nil => cases r; exact r2
    | cons v vs ih =>
      cases r with
      | cons h t => exact .cons h (ih t)
  have rg : ∀ {l : List V} {k : List Dt} (i : Nat), RepL b F l k → (∃ v u, getN l i = some v ∧ getN k i = some u ∧ Rep b F v u) ∨ (getN l i = none ∧ getN k i = none) := fun {l k} i h => by
    induction l generalizing i k with
    | nil => cases h; exact .inr ⟨rfl, rfl⟩
    | cons v l ih =>
      cases h with
      | cons h t =>
        cases i with
        | zero => exact .inl ⟨_, _, rfl, rfl, h⟩
        | succ i => exact ih i t
  have rs : ∀ p : List Nat, RepL b F (selGo (app vs zs) p) (selGo (app us ws) p) := fun p => by
    induction p with
    | nil => exact .nil
    | cons i p ih =>
      unfold selGo
      rcases rg i (ra r) with ⟨v, u, h1, h2, h3⟩ | ⟨h1, h2⟩
      · rw [h1, h2]; exact .cons h3 ih
      · rw [h1, h2]; exact ih
  unfold sel
  rw [lenEq_two (n := n) r.length, lenEq_two (n := m) r2.length]
  cases lenEq us n <;> cases lenEq ws m <;> first | exact rs p | exact .nil
theorem kb_mk {x qual : Str} {st : Stmt} {f : Addr} {fd : FuncData} (F : Fun K x qual st f fd) (n m : Nat) (p : List Nat) {ps ks : List Str} (hp : ps ≠ [])
    (h : ∀ (kV doc pm : Value) (an : Option Addr) (cdv ct : Value) (us ws : List Value), us.length = n → ws.length = m → bindArgs (PySem.W.fnOf x qual (defArgs st) (defBody st) (defScope st) .none kV doc pm an cdv ct) ⟨us, ks.zip ws⟩ = pure (ps.zip (sel n m p us ws))) : KBinds K fd ps ks (sel n m p) (sel n m p) := by
  obtain ⟨oc, od, kV, doc, pm, an, cdv, ct, osl, rfl, lk, hcd⟩ := F.ex
  refine ⟨fun s us ws _ hl => ?_, fun r r2 => vals_sel n m p r r2⟩
  cases h1 : lenEq us n with
  | false =>
    exfalso
    unfold sel at hl
    rw [h1] at hl
    exact hp (List.length_eq_zero_iff.mp hl.symm)
  | true =>
    cases h2 : lenEq ws m with
    | false =>
      exfalso
      unfold sel at hl
      rw [h1, h2] at hl
      exact hp (List.length_eq_zero_iff.mp hl.symm)
    | true => exact .of_eq (h kV doc pm an cdv ct us ws (lenEq_len h1) (lenEq_len h2))
/-! ### the law's own def: the bag is made, then the rest by its data -/
theorem xss_some {st : List Stmt} {T : Bg → DSt} (h : ∀ b, XSs X b st (T b)) : ∃ te, PSs X st te ∧ ∀ b, DS b te (T b) :=
  ⟨fun D σ H => ∃ b, (h b).ex.choose D σ H, ⟨fun pins s σ H D I ⟨b, hw⟩ => (h b).ex.choose_spec.1.run pins s σ H D I hw⟩, fun b {Fm F0 H0 F H σ γ} E n t D k => ⟨b, (h b).ex.choose_spec.2 E n t D k⟩⟩
end
/-! ### the bag: a list of the cells and four ints -/
@[reducible] def takeT : DSp := fun ds P => match ds with
  | [.bag, .int n] => 0 < n ∧ n < 1073741824 ∧ ∀ r : Int, 0 ≤ r → r < n → P (.int r)
  | _ => False
def bagD (cs : List Int) (i v m k : Int) : List Dt := [.lst (cs.map Dt.int), .int i, .int v, .int m, .int k]
section
variable {P : Program} {w : World} {K : PySem.W.Frag} {mg : Str → Option Value} {base : Heap} {a : Addr}
theorem repL_of_ints {b : Bg} {F : Hp} : ∀ ns : List Int, RepL b F (ns.map V.int) (ns.map Dt.int)
  | [] => .nil
  | n :: ns => .cons (.int n) (repL_of_ints ns)
def TakeEnd (a : Addr) (cs : List Int) (n : Int) (γ : Gm) (d : Dt) : Prop := ∃ (i' : Nat) (v' m' z' r : Int), gat γ 0 = .own a (bagD cs i' v' m' z') ∧ 0 ≤ m' ∧ m' < 2147483563 ∧ d = .int r ∧ 0 ≤ r ∧ r < n
theorem takeEnd {a : Addr} {cs : List Int} {n : Int} {γ : Gm} (i : Nat) {v m z r : Int} (h : gat γ 0 = .own a (bagD cs i v m z)) (h1 : 0 ≤ m) (h2 : m < 2147483563) (h3 : 0 ≤ r) (h4 : r < n) : TakeEnd a cs n γ (.int r) := ⟨i, v, m, z, r, h, h1, h2, rfl, h3, h4⟩
theorem tabS_less {H : Hp} {P a : Addr} {q : Str} {xs : List V} (h : LamX.TabS H P q) (ha : H a = some (.lst xs)) : LamX.TabS (less H a) P q := by
  obtain ⟨ps, h1, h2, h3⟩ := h
  refine ⟨ps, ?_, h2, fun pos cv hc => ?_⟩
  · rw [less_ne]
    · exact h1
    · intro z
      rw [z, ha] at h1
      cases h1
  · obtain ⟨c, e1, e2⟩ := h3 pos cv hc
    refine ⟨c, e1, ?_⟩
    rw [less_ne]
    · exact e2
    · intro z
      rw [z, ha] at e2
      unfold LamX.CodeO at e2
      cases e2
theorem fn_take {nm : Addr → Str} {tb : List Addr} {x qual : Str} {st : Stmt} {f : Addr} {fd : FuncData} {p1 p2 p3 p4 p5 : Str} {k : Nat} (F : Fun K x qual st f fd) (S : FnScope [p1, p2, p3, p4, p5] [p1, p2] (defScope st))
    (hbody : ∀ (X : Cx) (outer : List Env) (cdv : Value) (A : Around) (s : Shared) (H : Hp) (E : L2.XK), X = (cxOf CX0 P w K mg base [p1, p2, p3, p4, p5] qual (defScope st) f cdv A outer s H E).nox → Room k X.A → ∃ T', XSs (cxOf CX0 P w K mg base [p1, p2, p3, p4, p5] qual (defScope st) f cdv A outer s H E).nox ⟨none, nm, tb⟩ (defBody st) T' ∧
      ∀ (cs : List Int) (i : Nat) (v m z n : Int), cs.length ≤ 63 → 0 ≤ m → m < 2147483563 → 0 < n → n < 1073741824 →
        T' { nx := fun _ => False, rt := TakeEnd a cs n } [.own a (bagD cs i v m z), .val (.int n), .un, .un, .un]) :
    FnOk P w K mg base CX0 (k + 1) f fd [p1, p2] (spD ⟨some a, nm, tb⟩ 2 takeT) := by
  refine F.ok S (fun vs H Q E h => ?_) (fun cdv A outer s H vs Q E hr h => ?_)
  · obtain ⟨F0, ds, R, h1, h2, h3, _⟩ := h
    rw [h2.length, h3] <;> rfl
  · obtain ⟨F0, ds, R, h1, h2, h3, h4, h5⟩ := h
    obtain ⟨T', ⟨t, t1, t2⟩, t3⟩ := hbody _ outer cdv A s H E rfl hr
    cases h2 with
    | nil => exact h4.elim
    | cons ra rb =>
      cases rb with
      | nil => cases ra <;> exact h4.elim
      | cons rb rc =>
        cases rc with
        | cons _ _ => cases h3
        | nil =>
          cases ra <;> first | exact h4.elim | skip
          cases rb <;> first | exact h4.elim | skip
          rename_i a' ea n
          cases ea
          obtain ⟨n0, n1, hR⟩ := h4
          obtain ⟨hs, ⟨b0, c, cs, i, v, m, z, hc, hb, m0, m1, hl⟩, ntF, tbF⟩ := h1
          let F1 : Hp := fun q => if q = c then some (.lst (cs.map V.int)) else none
          have nc : c ≠ a := fun q => by
            rw [q, b0] at hc
            cases hc
          -- the entry without the bag, its cells alone known
          have f1c : F1 c = some (.lst (cs.map V.int)) := if_pos rfl
          have f1n : ∀ q, q ≠ c → F1 q = none := fun q hq => if_neg hq
          have f1s : Sub F1 H := fun q o hq => by
            by_cases e : q = c
            · subst e; rw [f1c] at hq; cases hq; exact hs _ _ hc
            · rw [f1n q e] at hq; cases hq
          have f1a : F1 a = none := f1n a nc.symm
          have ok0 : Ok ⟨none, nm, tb⟩ F1 (less H a) := ⟨fun q o hq => by rw [less_ne (ne_of_none hq f1a)]; exact f1s q o hq, trivial, fun q o hq => by
            by_cases e : q = c
            · subst e; rw [f1c] at hq; cases hq; exact .lst
            · (rw [f1n q e] at hq; cases hq), fun P hP => tabS_less (tbF P hP) hb⟩
          have ext0 : Ext ⟨none, nm, tb⟩ F1 (less H a) F1 H := ⟨fun q o _ hq _ => less_sub q o hq, Sub.refl _, f1s, fun _ _ _ _ => rfl, trivial, ok0.2.2.1, fun q ps hq => ⟨ps, less_sub q _ hq⟩, tbF, fun _ _ _ e => nomatch e⟩
          have nv : Nv ⟨none, nm, tb⟩ F1 F1 (less H a) F1 H (L2.start [p1, p2, p3, p4, p5] [.ref a, .int n]) [.own a (bagD cs i v m z), .val (.int n), .un, .un, .un] := by
            refine ⟨ok0, Sub.refl _, ext0, rfl, fun j => ?_, fun j l p hj hl' => ?_⟩
            · match j with
              | 0 => exact ⟨_, rfl, hb, .cons (.lst f1c (repL_of_ints cs)) (.cons (.int _) (.cons (.int _) (.cons (.int _) (.cons (.int _) .nil)))), f1a, less_at, fun q => nomatch q⟩
              | 1 => exact ⟨_, rfl, .int n⟩
              | 2 => exact True.intro
              | 3 => exact True.intro
              | 4 => exact True.intro
              | j + 5 => exact True.intro
            · have z0 : ∀ (j : Nat) (p : Addr), (gat [Sl.own a (bagD cs i v m z), .val (.int n), .un, .un, .un] j).adr = some p → j = 0 := fun j p hj => by
                match j, hj with
                | 0, _ => rfl
                | 1, h => cases h
                | 2, h => cases h
                | 3, h => cases h
                | 4, h => cases h
                | j + 5, h => cases h
              rw [z0 j p hj, z0 l p hl']
          refine ⟨t, t1, t2 _ nv (t3 cs i v m z n hl m0 m1 n0 n1) _ ⟨fun _ r => r.elim, ?_, fun _ r => r.elim, fun _ r => r.elim⟩⟩
          rintro F' H' σ γ u d n' r ⟨i', v', m', z', rr, hg, q0, q1, rfl, r0, r1⟩
          cases r
          -- the bag is still the first slot's list; where it stands is where it stood
          have hsl := n'.slot 0
          rw [hg] at hsl
          obtain ⟨ws, g1, g2, g3, g4, g5, g6⟩ := hsl
          have x := n'.ext
          -- its first item is the cells' list still: what holds the cells in F' is a list of the same ints
          cases g3 with
          | cons q1' q2' =>
            cases q2' with
            | cons q2' q3' =>
              cases q3' with
              | cons q3' q4' =>
                cases q4' with
                | cons q4' q5' =>
                  cases q5' with
                  | cons q5' q6' =>
                    cases q6'
                    cases q1' with
                    | @lst c1 vs1 _ hc' rc' =>
                      cases q2'
                      cases q3'
                      cases q4'
                      cases q5'
                      cases repL_ints rc'
                      have c1h : c1 = c ∨ H c1 = none := by
                        by_cases e : c1 = c
                        · exact .inl e
                        · right
                          cases w : H c1 with
                          | none => rfl
                          | some o =>
                            have na : c1 ≠ a := fun e => by rw [e, g4] at hc'; cases hc'
                            have := x.new c1 o (by rw [less_ne na]; exact w) (fun φ e => by
                              have h7 := x.keep c1 o (fun e => nomatch e) (by rw [less_ne na]; exact w) (fun ps z => by rw [e] at z; cases z)
                              rw [x.sub _ _ hc', e] at h7
                              cases h7)
                            rw [hc', f1n c1 e] at this
                            cases this
                      let F2 : Hp := fun q => match F0 q with
                        | some o => some o
                        | none => F' q
                      have f2s : ∀ q o, F0 q = some o → F2 q = some o := fun q o h => by
                        show (match F0 q with | some o => some o | none => F' q) = _
                        rw [h]
                      have f2n : ∀ q, F0 q = none → F2 q = F' q := fun q h => by
                        show (match F0 q with | some o => some o | none => F' q) = _
                        rw [h]
                      have h1c : F2 c1 = some (.lst (cs.map V.int)) := by
                        rcases c1h with e | e
                        · rw [e]; exact f2s _ _ hc
                        · rw [f2n c1 (by cases w : F0 c1 with | none => rfl | some o => rw [hs _ _ w] at e; cases e)]
                          rw [hc', repL_ints rc']
                      have ntF2 : NoT F2 := fun q o h => by
                        cases w : F0 q with
                        | some u =>
                          rw [f2s q u w] at h
                          cases h
                          exact ntF q _ w
                        | none =>
                          rw [f2n q w] at h
                          exact x.nt q o h
                      have f2a : F2 a = none := by rw [f2n a b0]; exact g4
                      refine h5 _ _ F2 H' ⟨fun p o np hp nt => x.keep p o (fun e => nomatch e) (by rw [less_ne (fun e => np (congrArg some e.symm))]; exact hp) nt, fun q o h => f2s q o h, fun q o h => ?_, fun p o hp ne => ?_, ⟨f2a, c1, cs, i', v', m', z', h1c, g2, q0, q1, hl⟩, ntF2, fun p ps hp => x.tbl p ps (by rw [less_ne (fun e => by rw [e, hb] at hp; cases hp)]; exact hp), x.tabs, fun p c' r' ep hp => ?_⟩ (.int rr) (hR rr r0 r1)
                      · cases w : F0 q with
                        | none => rw [f2n q w] at h; exact x.sub q o h
                        | some u =>
                          rw [f2s q u w] at h
                          have e3 := Option.some.inj h
                          rw [← e3]
                          exact x.keep q u (fun e => nomatch e) (by rw [less_ne (ne_of_none w b0)]; exact hs q u w) (ntF q u w)
                      · cases w : F0 p with
                        | some u => exact f2s p u w
                        | none =>
                          rw [f2n p w]
                          by_cases ep : p = a
                          · rw [ep]; exact g4
                          · rw [x.new p o (by rw [less_ne ep]; exact hp) ne]
                            exact f1n p fun e => by rw [e, hc] at w; cases w
                      · cases ep
                        rw [hb] at hp
                        cases hp
                        exact ⟨c1, _, g2, c1h⟩
end
/-! ### comparisons as tests -/
section
variable {X : Cx} {b : Bg} {e e1 e2 e3 tg : Expr} {es : List Expr} {pos : Pos}
theorem t_op {op : CmpOp} {r : R2} {T} (ho : OpR X (compareOp op) r) (h : D2 b r T) (hm : behindInMarks op e2 = false) (ha : XE X b e1 Ta) (hb : XE X b e2 Tb) : XT X b (.Compare e1 [op] [e2] pos) (tB1 (d2 T Ta Tb)) := by
  obtain ⟨_, h1, h2⟩ := ha; obtain ⟨_, g1, g2⟩ := hb
  exact ⟨_, pt_cmpR ho h1 g1 hm, db_val (de_op h h2 g2)⟩
theorem t_lt (ha : XE X b e1 Ta) (hb : XE X b e2 Tb) : XT X b (.Compare e1 [.Lt] [e2] pos) (tB1 (d2 (vBl fun i j => decide (i < j)) Ta Tb)) := t_op op_lt (d2_I0 fun i j _ => .bl _) (nomark _) ha hb
theorem t_le (ha : XE X b e1 Ta) (hb : XE X b e2 Tb) : XT X b (.Compare e1 [.LtE] [e2] pos) (tB1 (d2 (vBl fun i j => decide (i ≤ j)) Ta Tb)) := t_op op_le (d2_I0 fun i j _ => .bl _) (nomark _) ha hb
theorem t_gt (ha : XE X b e1 Ta) (hb : XE X b e2 Tb) : XT X b (.Compare e1 [.Gt] [e2] pos) (tB1 (d2 (vBl fun i j => decide (j < i)) Ta Tb)) := t_op op_gt (d2_I0 fun i j _ => .bl _) (nomark _) ha hb
theorem t_ge (ha : XE X b e1 Ta) (hb : XE X b e2 Tb) : XT X b (.Compare e1 [.GtE] [e2] pos) (tB1 (d2 (vBl fun i j => decide (j ≤ i)) Ta Tb)) := t_op op_ge (d2_I0 fun i j _ => .bl _) (nomark _) ha hb
theorem t_eq (hu : X.A.units + 64 < cLine) (ha : XE X b e1 Ta) (hb : XE X b e2 Tb) : XT X b (.Compare e1 [.Eq] [e2] pos) (tB1 (d2 (vEq false) Ta Tb)) := t_op (op_eq.or (op_eqD hu)) d2_eqD (nomark _) ha hb
theorem t_ne (hu : X.A.units + 64 < cLine) (ha : XE X b e1 Ta) (hb : XE X b e2 Tb) : XT X b (.Compare e1 [.NotEq] [e2] pos) (tB1 (d2 (vEq true) Ta Tb)) := t_op (op_ne.or (op_neD hu)) d2_neD (nomark _) ha hb
theorem t_in (ha : XE X b e1 Ta) (hb : XE X b e2 Tb) (hm : behindInMarks .In e2 = false := by rfl) : XT X b (.Compare e1 [.In] [e2] pos) (tB1 (d2 (vIn false) Ta Tb)) := t_op op_in_seq d2_in hm ha hb
theorem t_notIn (ha : XE X b e1 Ta) (hb : XE X b e2 Tb) (hm : behindInMarks .NotIn e2 = false := by rfl) : XT X b (.Compare e1 [.NotIn] [e2] pos) (tB1 (d2 (vIn true) Ta Tb)) := t_op op_notIn_seq d2_in hm ha hb
theorem t_isN {j p2} (ha : XE X b e1 Ta) : XT X b (.Compare e1 [.Is] [.Constant .none j p2] pos) (tB1 (dIsN Ta)) := by
  obtain ⟨_, h1, h2⟩ := ha
  exact ⟨_, pt_cmp (pc_isN h1) (by rfl), db_val (te := tIsN _) fun P n t Q q => h2 _ n t _ fun v d F1 H1 x1 r1 t1 => q _ _ F1 H1 x1 (by rw [rep_non r1]; exact .bl _) t1⟩
theorem t_notN {j p2} (ha : XE X b e1 Ta) : XT X b (.Compare e1 [.IsNot] [.Constant .none j p2] pos) (tB1 (dNotN Ta)) := by
  obtain ⟨_, h1, h2⟩ := ha
  exact ⟨_, pt_cmp (pc_notN h1) (by rfl), db_val (te := tNotN _) fun P n t Q q => h2 _ n t _ fun v d F1 H1 x1 r1 t1 => q _ _ F1 H1 x1 (by rw [rep_non r1, nB_eq]; exact .bl _) t1⟩
theorem t_isB (ha : XE X b e1 Ta) (hb : XE X b e2 Tb) : XT X b (.Compare e1 [.Is] [e2] pos) (tB1 (d2 (vIsB false) Ta Tb)) := t_op op_isBl d2_isB (nomark _) ha hb
theorem t_notB (ha : XE X b e1 Ta) (hb : XE X b e2 Tb) : XT X b (.Compare e1 [.IsNot] [e2] pos) (tB1 (d2 (vIsB true) Ta Tb)) := t_op op_notBl d2_notB (nomark _) ha hb
end
/-! ### a word behind a statement; and, chains by their values -/
section
variable {X : Cx} {b : Bg}
def tCutS (t : TS) : TS := fun D σ H => ∃ Mid : L2.St → Hp → Prop, t { D with nx := Mid } σ H ∧ ∀ σ' H', Mid σ' H' → D.nx σ' H'
theorem ps_cut {st : Stmt} {t : TS} (h1 : PS X st t) : PS X st (tCutS t) := by
  refine ⟨fun pins s σ H D I h => ?_⟩
  obtain ⟨Mid, hm, hu⟩ := h
  refine thn (h1.run pins s σ H { D with nx := Mid } I hm) fun f s1 q => ?_
  cases f with
  | next =>
    obtain ⟨σ', H', I', q⟩ := q
    exact ⟨σ', H', I', hu σ' H' q⟩
  | ret v => exact q
  | brk => exact q
  | cont => exact q
@[reducible] def sCut (t : DSt) : DSt := fun E γ => Word (∃ M : Gm → Prop, t { E with nx := M } γ ∧ ∀ γ', M γ' → E.nx γ')
theorem s_cut {st : Stmt} {T : DSt} (h : XS X b st T) : XS X b st (sCut T) := by
  obtain ⟨_, h1, h2⟩ := h
  refine ⟨_, ps_cut h1, fun {Fm F0 H0 F H σ γ} E n t D k => ?_⟩
  obtain ⟨M, t1, t2⟩ := t
  exact ⟨fun σ' H' => ∃ F' γ', Nv b Fm F0 H0 F' H' σ' γ' ∧ M γ', h2 _ n t1 _ ⟨fun n' m => ⟨_, _, n', m⟩, k.rt, k.bk, k.ct⟩, fun σ' H' ⟨F', γ', n', m⟩ => k.nx n' (t2 γ' m)⟩
end
theorem dAnd_go {Ta Tb : DT} {γ : Gm} {P : Dt → Prop} (h : Ta γ fun x => match x with | .bl true => Tb γ P | .bl false => P (.bl false) | _ => False) : dAnd Ta Tb γ P := h
theorem dOr_go {Ta Tb : DT} {γ : Gm} {P : Dt → Prop} (h : Ta γ fun x => match x with | .bl false => Tb γ P | .bl true => P (.bl true) | _ => False) : dOr Ta Tb γ P := h
theorem dAnd_val {Ta Tb : DT} {γ : Gm} {P : Dt → Prop} (a c : Bool) (ha : ∀ Q : Dt → Prop, Q (.bl a) → Ta γ Q) (hb : ∀ Q : Dt → Prop, Q (.bl c) → Tb γ Q) (h : P (.bl (a && c))) : dAnd Ta Tb γ P := by
  refine ha _ ?_
  cases a with
  | true => exact hb _ h
  | false => exact h
theorem dOr_val {Ta Tb : DT} {γ : Gm} {P : Dt → Prop} (a c : Bool) (ha : ∀ Q : Dt → Prop, Q (.bl a) → Ta γ Q) (hb : ∀ Q : Dt → Prop, Q (.bl c) → Tb γ Q) (h : P (.bl (a || c))) : dOr Ta Tb γ P := by
  refine ha _ ?_
  cases a with
  | true => exact h
  | false => exact hb _ h
theorem dChI_go {p p' : Int → Int → Bool} {Ta Tb Tc : DT} {γ : Gm} {P : Dt → Prop} (h : Ta γ fun x => Tb γ fun y => match x, y with | .int i, .int j => (match p i j with | true => (Tc γ fun z => (match z with | .int k => P (.bl (p' j k)) | _ => False)) | false => P (.bl false)) | _, _ => False) : dChI p p' Ta Tb Tc γ P := h
theorem dChI_val {p p' : Int → Int → Bool} {Ta Tb Tc : DT} {γ : Gm} {P : Dt → Prop} (i j k : Int) (ha : ∀ Q : Dt → Prop, Q (.int i) → Ta γ Q) (hb : ∀ Q : Dt → Prop, Q (.int j) → Tb γ Q) (hc : ∀ Q : Dt → Prop, Q (.int k) → Tc γ Q) (h : P (.bl (p i j && p' j k))) : dChI p p' Ta Tb Tc γ P := by
  refine ha _ (hb _ ?_)
  show (match p i j with | true => _ | false => _)
  cases e : p i j with
  | true => rw [e] at h; exact hc _ h
  | false => rw [e] at h; exact h
end DL

namespace DL
open PySem PySem.Spec PyProof.Rows L2
/-! ### the bag is made -/
def spBag (K : PySem.W.Frag) : Sp := fun vs H Q _ => ∃ (a : Addr) (ns : List Int), vs = [.ref a] ∧ SqL K H a (ns.map V.int) ∧ ns.length ≤ 63 ∧
  ∀ (p c : Addr) (cs : List Int) (m : Int) (H' : Hp), Evl.Ex H H' → cs.length ≤ 63 → 0 ≤ m → m < 2147483563 → H' c = some (.lst (cs.map V.int)) → H' p = some (.lst [.ref c, .int 0, .int 0, .int m, .int 0]) → Q (.ref p) H'
theorem cut63 (xs : List V) (h : xs.length ≤ 63) : cutV xs none (some 63) = xs := by
  unfold cutV
  rw [HT.sIx_none, show HT.sIx xs.length xs.length (some 63) = min 63 xs.length from HT.sIx_nat xs.length xs.length 63]
  rw [List.drop_zero, Nat.sub_zero, List.take_of_length_le (by omega)]
section
variable {K : PySem.W.Frag} {σ : L2.St} {H : Hp} {D : Ends}
def rInt1 : List V → Hp → VK → Prop := fun xs H Q => (∃ i, xs = [.int i] ∧ Q (.int i) H) ∨ ∃ k, xs = [.bl k] ∧ Q (.int (if k then 1 else 0)) H
def rLen1 (K : PySem.W.Frag) : List V → Hp → VK → Prop := fun xs H Q => ∃ x n, xs = [x] ∧ LenV K x H n ∧ Q (.int n) H
theorem rc_int {i : Int} : Evl.RC rInt1 [.int i] H (.int i) := fun H1 _ Q q => .inl ⟨i, rfl, q H1 (Evl.Ex.refl _)⟩
/-- the reading of the bag's making -/
theorem read_bag {a : Addr} {ns : List Int} {c1 c2 c3 c4 c5 : Int} (hS : SqL K H a (ns.map V.int)) (hl : ns.length ≤ 63) (h4 : c4 = 2147483563) (h5 : c5 = 63) (h1 : 0 ≤ c1 ∧ c1 < 1000000000) (h2 : 0 ≤ c2 ∧ c2 < 1000000) {Q : VK} {nx : L2.St → Hp → Prop}
    (q : ∀ (p c : Addr) (cs : List Int) (m : Int) (H' : Hp), Evl.Ex H H' → cs.length ≤ 63 → 0 ≤ m → m < 2147483563 → H' c = some (.lst (cs.map V.int)) → H' p = some (.lst [.ref c, .int 0, .int 0, .int m, .int 0]) → Q (.ref p) H') :
    tSeq (tAsg (tLc (iList K (tSl (rSlL K) (tVar 0) tNoPart (tPart (tC (.int c5))))) (gName 3) tYes (tCB rInt1 (tCons (tVar 3) tNil)) [3]) (gName 1))
      (tSeq (tAsg (tOp (rI0 fun i j => .int (i + j)) (tC (.int c1)) (tOp (rI CMul fun i j => .int (i * j)) (tC (.int c2)) (tCB (rLen1 K) (tCons (tVar 1) tNil)))) (gName 2))
      (tSeq (tFor (iList K (tVar 1)) (gName 3) (tAsg (tOp (rI (fun _ j => 0 < j) fun i j => .int (i % j)) (tCB rInt1 (tCons (tOp (rI0 fun i j => .int (i + j)) (tOp (rI CMul fun i j => .int (i * j)) (tVar 2) (tC (.int c3))) (tVar 3)) tNil)) (tC (.int c4))) (gName 2)))
      (tRet (tLst (tCons (tVar 1) (tCons (tC (.int 0)) (tCons (tC (.int 0)) (tCons (tVar 2) (tCons (tC (.int 0)) tNil)))))))) ) { nx := nx, rt := Q } [some (.ref a), none, none, none] H := by
  subst h4 h5
  have hv : (ns.map V.int).length ≤ 63 := by rw [List.length_map]; exact hl
  refine Evl.q_asgL (Evl.el_lcNL (xs := ns.map V.int) (fun _ => true) (fun i => .int (ns.getD i 0)) ?_ (by omega) (fun x => rfl) (fun i x H1 _ _ H2 e2 Q' q' => q' H2 (Evl.Ex.refl _)) (fun i x H1 e hx _ => ?_)) fun c H1 hc e1 hh1 => ?_
  · have := Evl.el_sl (K := K) (te := tVar 0) (tl := tNoPart) (th := tPart (tC (.int 63))) (σ := [some (V.ref a), none, none, none]) (H := H) (Evl.ev_var (v := .ref a) rfl) Evl.eo_none (Evl.eo_some Evl.ev_c) hS
    rw [cut63 _ hv] at this
    exact this
  · have ex : x = .int (ns.getD i 0) := by
      rw [List.getElem?_map] at hx
      cases e : ns[i]? with
      | none => rw [e] at hx; cases hx
      | some z =>
        rw [e] at hx
        rw [List.getD_eq_getElem?_getD, e]
        exact (Option.some.inj hx).symm
    subst ex
    exact Evl.ev_cb (Evl.ea_cons (Evl.ev_var rfl) Evl.ea_nil) rc_int
  · -- what the list holds
    have h1' : H1 c = some (.lst (ns.map V.int)) := by
      rw [hh1]
      congr 2
      unfold Evl.given
      rw [List.filter_eq_self.mpr (fun _ _ => rfl)]
      apply List.ext_getElem?
      intro i
      rw [List.getElem?_map, List.getElem?_map]
      by_cases hi : i < ns.length
      · rw [List.getElem?_range (by rw [List.length_map]; exact hi), List.getElem?_eq_getElem hi]
        show some (V.int (ns.getD i 0)) = some (V.int ns[i])
        rw [List.getD_eq_getElem?_getD, List.getElem?_eq_getElem hi] <;> rfl
      · rw [List.getElem?_eq_none (by rw [List.length_range, List.length_map]; omega), List.getElem?_eq_none (by omega)] <;> rfl
    have s1 : SqL K H1 c (ns.map V.int) := SqL.of h1'
    refine Evl.q_asg (v := .int (c1 + c2 * ((ns.map V.int).length : Int))) (Evl.ev_op Evl.ev_c (Evl.ev_op Evl.ev_c (z := .int (c2 * ((ns.map V.int).length : Int))) (Evl.ev_cb (z := .int ((ns.map V.int).length : Int)) (Evl.ea_cons (Evl.ev_var (v := .ref c) rfl) Evl.ea_nil) fun H2 e2 Q' q' => ⟨_, _, rfl, .inl ⟨_, Evl.ex_l e2 s1, rfl⟩, q' H2 (Evl.Ex.refl _)⟩) (Evl.rv_I (.inl (by omega)))) Evl.rv_I0) fun H2 e2 => ?_
    have s2 : SqL K H2 c (ns.map V.int) := Evl.ex_l e2 s1
    refine Evl.q_forLn (xs := ns.map V.int) (Evl.ev_var (v := .ref c) rfl) s2 (fun i σ' H' => Evl.Ex H2 H' ∧ ∃ (m : Int) (y : Option V), σ' = [some (.ref a), some (.ref c), some (.int m), y] ∧ 0 ≤ m ∧ m < 2147483563) (fun H3 e3 => ⟨e3, _, none, rfl, ?_⟩) (fun i σ' H' _ p => Evl.ex_l p.1 s2) ?_ ?_
    · have h7 : (0 : Int) ≤ ((ns.map V.int).length : Int) := Int.natCast_nonneg _
      have h8 : ((ns.map V.int).length : Int) ≤ 63 := by omega
      have h9 := Int.mul_nonneg h2.1 h7
      have h10 : c2 * ((ns.map V.int).length : Int) ≤ 1000000 * 63 := Int.mul_le_mul (by omega) h8 h7 (by decide)
      omega
    · rintro i x σ' H' hx ⟨e3, m, y, rfl, m0, m1⟩
      have ex : ∃ z, x = V.int z := by
        rw [List.getElem?_map] at hx
        cases e : ns[i]? with
        | none => rw [e] at hx; cases hx
        | some z => rw [e] at hx; exact ⟨z, (Option.some.inj hx).symm⟩
      obtain ⟨z, rfl⟩ := ex
      have mb : -(2 ^ 64) < m ∧ m < 2 ^ 64 := by omega
      refine Evl.s_asg (v := .int ((m * c3 + z) % 2147483563)) (Evl.ev_op (Evl.ev_cb (z := .int (m * c3 + z)) (Evl.ea_cons (Evl.ev_op (Evl.ev_op (Evl.ev_var (v := .int m) rfl) Evl.ev_c (Evl.rv_I (.inl mb))) (Evl.ev_var (v := .int z) rfl) Evl.rv_I0) Evl.ea_nil) rc_int) Evl.ev_c (Evl.rv_I (by decide))) fun H4 e4 => ?_
      refine ⟨e3.trans e4, _, _, rfl, ⟨Int.emod_nonneg _ (by decide), Int.emod_lt_of_pos _ (by decide)⟩⟩
    · rintro σ' H' ⟨e3, m, y, rfl, m0, m1⟩
      refine Evl.s_retL (xs := [.ref c, .int 0, .int 0, .int m, .int 0]) (Evl.el_lst (Evl.ea_cons (Evl.ev_var rfl) (Evl.ea_cons Evl.ev_c (Evl.ea_cons Evl.ev_c (Evl.ea_cons (Evl.ev_var rfl) (Evl.ea_cons Evl.ev_c Evl.ea_nil))))) (by show 5 ≤ 100000; decide)) fun p H4 _ e4 h4 => ?_
      exact q p c ns m H4 (((e1.trans e2).trans e3).trans e4) hl m0 m1 (e4 c _ (e3 c _ (e2 c _ h1'))) h4
end
end DL

namespace DL
open PySem PySem.Spec PyProof.Rows L2
theorem law_rest {nm : Addr → Str} {tb : List Addr} {X : Cx} {st : List Stmt} {T : Addr → DSt} (h : ∀ a : Addr, XSs X ⟨some a, nm, tb⟩ st (T a)) : ∃ te, PSs X st te ∧ ∀ a, DS ⟨some a, nm, tb⟩ te (T a) :=
  ⟨fun D σ H => ∃ a, (h a).ex.choose D σ H, ⟨fun pins s σ H D I ⟨a, hw⟩ => (h a).ex.choose_spec.1.run pins s σ H D I hw⟩, fun a {Fm F0 H0 F H σ γ} E n t D k => ⟨a, (h a).ex.choose_spec.2 E n t D k⟩⟩
theorem law_go {nm : Addr → Str} {tb : List Addr} {te : TS} {T : Addr → DSt} {γ : Gm} (t2 : ∀ a, DS ⟨some a, nm, tb⟩ te (T a)) {p c : Addr} {cs : List Int} {m : Int} {H' : Hp} (hcs : cs.length ≤ 63) (m0 : 0 ≤ m) (m1 : m < 2147483563) (hc : H' c = some (.lst (cs.map V.int))) (hp : H' p = some (.lst [.ref c, .int 0, .int 0, .int m, .int 0])) (htb : TabsOk ⟨some p, nm, tb⟩ H' := by intro _ h; cases h)
    {σ : L2.St} {N : List Str} {i : Nat} {Q : VK} {nx : L2.St → Hp → Prop} (hσ : σ.length = N.length) (hγ : gset (List.replicate N.length .un) i (.val .bag) = γ) (q : ∀ H', Q (.bl true) H') (h : T p { nx := fun _ => False, rt := fun _ d => d = .bl true } γ) : te { nx := nx, rt := Q } (σ.set i (some (.ref p))) H' := by
  have nc : p ≠ c := fun e => by
    rw [e, hc] at hp
    cases cs with
    | nil => cases hp
    | cons z r => cases hp
  let F : Hp := fun q => if q = c then some (.lst (cs.map V.int)) else none
  have fc : F c = some (.lst (cs.map V.int)) := if_pos rfl
  have fp : F p = none := if_neg nc
  have ok : Ok ⟨some p, nm, tb⟩ F H' := ⟨(fun a o e => by
    by_cases z : a = c
    · subst z; rw [fc] at e; cases e; exact hc
    · rw [show F a = none from if_neg z] at e; cases e), ⟨fp, c, cs, 0, 0, m, 0, fc, hp, m0, m1, hcs⟩, fun a o e => by
    by_cases z : a = c
    · subst z; rw [fc] at e; cases e; exact .lst
    · (rw [show F a = none from if_neg z] at e; cases e), htb⟩
  have gun : ∀ (n j : Nat), gat (List.replicate n .un) j = .un := fun n => by
    induction n with
    | zero => intro j; rfl
    | succ n ih =>
      intro j
      cases j with
      | zero => rfl
      | succ j => exact ih j
  have n0 : Nv ⟨some p, nm, tb⟩ F F H' F H' σ (List.replicate N.length .un) := ⟨ok, Sub.refl _, Ext.refl ok, by rw [List.length_replicate]; exact hσ, fun j => by rw [gun]; exact True.intro, fun j k l h1 _ => by rw [gun] at h1; cases h1⟩
  have n1 := n0.set i (v := .ref p) (d := .bag) (.bag rfl)
  rw [hγ] at n1
  exact t2 p _ n1 h _ ⟨fun _ r => r.elim, fun n r e => by
    cases (show _ = Dt.bl true from e)
    cases r
    exact q _, fun _ r => r.elim, fun _ r => r.elim⟩
/-! ### drawn items, equal data -/
@[reducible] def ofT : DSp := fun ds P => match ds with
  | [.bag, .lst xs] => 0 < xs.length ∧ xs.length ≤ 100000 ∧ ∀ d, d ∈ xs → P d
  | [.bag, .tup xs] => 0 < xs.length ∧ xs.length ≤ 100000 ∧ ∀ d, d ∈ xs → P d
  | [.bag, .str z] => 0 < z.length ∧ z.length ≤ 100000 ∧ ∀ c, c ∈ z.cps.toList → P (.str ⟨#[c]⟩)
  | _ => False
mutual
def dep : Dt → Nat
  | .lst xs => depL xs + 1
  | .tup xs => depL xs + 1
  | _ => 1
def depL : List Dt → Nat
  | [] => 0
  | x :: xs => max (dep x) (depL xs)
end
mutual
/-- data that == goes over, lists of at most 100000 -/
def okS : Dt → Bool
  | .lst xs => decide (xs.length ≤ 100000) && okSL xs
  | .tup xs => decide (xs.length ≤ 100000) && okSL xs
  | .ins _ _ => false
  | .dT _ => false
  | .dK _ => false
  | .ptr _ => false
  | .bag => false
  | .exc _ _ => false
  | .lam _ _ => false
  | .clo _ _ => false
  | _ => true
def okSL : List Dt → Bool
  | [] => true
  | x :: xs => okS x && okSL xs
end
@[reducible] def sameT (n : Nat) : DSp := fun ds P => match ds with
  | [x, y] => x = y ∧ okS y = true ∧ dep y ≤ n ∧ P (.bl true)
  | _ => False
theorem dep_pos : ∀ d : Dt, 1 ≤ dep d
  | .lst xs => by unfold dep; omega
  | .tup xs => by unfold dep; omega
  | .non => by unfold dep; omega
  | .bl _ => by unfold dep; omega
  | .int _ => by unfold dep; omega
  | .str _ => by unfold dep; omega
  | .ins _ _ => by unfold dep; omega
  | .dT _ => by unfold dep; omega
  | .dK _ => by unfold dep; omega
  | .ptr _ => by unfold dep; omega
  | .bag => by unfold dep; omega
  | .exc _ _ => by unfold dep; omega
  | .lam _ _ => by unfold dep; omega
  | .clo _ _ => by unfold dep; omega
theorem depL_mem : ∀ {xs : List Dt} {x : Dt}, x ∈ xs → dep x ≤ depL xs
  | y :: ys, x, h => by
    show dep x ≤ max (dep y) (depL ys)
    rcases List.mem_cons.mp h with e | h
    · rw [e]; omega
    · have := depL_mem h; omega
theorem okSL_mem : ∀ {xs : List Dt} {x : Dt}, okSL xs = true → x ∈ xs → okS x = true
  | y :: ys, x, k, h => by
    have k2 : (okS y && okSL ys) = true := k
    rw [Bool.and_eq_true] at k2
    rcases List.mem_cons.mp h with e | h
    · rw [e]; exact k2.1
    · exact okSL_mem k2.2 h
section
variable {P : Program} {w : World} {K : PySem.W.Frag} {mg : Str → Option Value} {base : Heap} {b : Bg}
theorem sameT_zero {k : Nat} {f : Addr} {fd : FuncData} {p1 p2 : Str} : FnOk P w K mg base CX0 k f fd [p1, p2] (spD b 2 (sameT 0)) := by
  have no : ∀ vs H Q E, ¬ spD b 2 (sameT 0) vs H Q E := fun vs H Q E h => by
    obtain ⟨F, ds, R, _, _, hl, ht, _⟩ := h
    match ds, ht with
    | [x, y], ht =>
      obtain ⟨_, _, h0, _⟩ := ht
      have := dep_pos y
      omega
  exact ⟨fun vs H Q E h => (no vs H Q E h).elim, fun A outer s H args us vs Q E _ _ _ _ h => (no vs H Q E h).elim⟩
end
theorem atI_mem {α : Type} {xs : List α} {r : Int} (h0 : 0 ≤ r) (h1 : r < (xs.length : Int)) : ∃ d, d ∈ xs ∧ atI xs r = some d := by
  obtain ⟨n, rfl⟩ := Int.eq_ofNat_of_zero_le h0
  have hn : n < xs.length := by omega
  exact ⟨xs[n], List.getElem_mem hn, atI_nat (List.getElem?_eq_getElem hn)⟩
/-- a comprehension that gives f of each item -/
theorem lc_map {TI : DAt} {Tg : Dt → Gm → (Gm → Prop) → Prop} {Tt : DBt} {Te : DT} {vs : List Nat} {γ : Gm} {R : List Dt → Prop} (f : Dt → Dt)
    (h : TI γ fun xs => xs.length ≤ 100000 ∧ (∀ d, d ∈ xs → ∀ Q : Dt → Prop, Q (f d) → Tg d (gwipe γ vs) fun γ2 => Tt γ2 fun c => (match c with | true => Te γ2 Q | false => False)) ∧ R (xs.map f))
    (mI : ∀ {A B : List Dt → Prop}, (∀ xs, A xs → B xs) → TI γ A → TI γ B) (mG : ∀ {d γ} {A B : Gm → Prop}, (∀ g, A g → B g) → Tg d γ A → Tg d γ B) (mT : ∀ {γ} {A B : Bool → Prop}, (∀ g, A g → B g) → Tt γ A → Tt γ B) : dLc TI Tg Tt Te vs γ R := by
  unfold dLc
  refine mI (fun xs hx => ?_) h
  obtain ⟨hz, hf, hr⟩ := hx
  refine ⟨hz, fun i acc => acc = (xs.take i).map f, rfl, fun i d acc hd ha e => ?_, fun acc _ e => ?_⟩
  · have hm := List.mem_of_getElem? hd
    refine mG (fun γ2 t => mT (fun c t => ?_) t) (hf d hm (fun y => acc ++ [y] = (xs.take (i + 1)).map f) ?_)
    · cases c with
      | true => exact t
      | false => exact t.elim
    · rw [e, List.take_add_one, hd, List.map_append] <;> rfl
  · rw [e, List.take_of_length_le (Nat.le_refl _)]
    exact hr
end DL

namespace ZN
open PySem PySem.Spec PyProof.Rows L2
/-! zip of many tuples and lists: zip(*rows), zip(a, b) -/
/-- the kind of a thing that is zipped: a tuple, or a list -/
def ItK (h : Heap) (it : Addr) (l : Bool × Addr) (k : Nat) : Prop := if l.1 = true then h.IsTupleIter it l.2 k else h.IsListIter it l.2 k
def SqK (h : Heap) (l : Bool × Addr) (xs : Array Value) : Prop := if l.1 = true then h.IsTuple l.2 xs else h.IsList l.2 xs
theorem ItK.T {h : Heap} {it : Addr} {l : Bool × Addr} {k : Nat} (e : l.1 = true) : ItK h it l k = h.IsTupleIter it l.2 k := if_pos e
theorem ItK.L {h : Heap} {it : Addr} {l : Bool × Addr} {k : Nat} (e : l.1 = false) : ItK h it l k = h.IsListIter it l.2 k := if_neg (by rw [e]; decide)
theorem SqK.T {h : Heap} {l : Bool × Addr} {xs : Array Value} (e : l.1 = true) : SqK h l xs = h.IsTuple l.2 xs := if_pos e
theorem SqK.L {h : Heap} {l : Bool × Addr} {xs : Array Value} (e : l.1 = false) : SqK h l xs = h.IsList l.2 xs := if_neg (by rw [e]; decide)
theorem ItK.extBut {h h' : Heap} {a c : Addr} {l : Bool × Addr} {k : Nat} (x : ItK h a l k) (hs : Heap.ExtBut c h h') (hab : a ≠ c) : ItK h' a l k := by
  cases e : l.1 with
  | true => rw [ItK.T e] at x ⊢; exact x.extBut hs hab
  | false => rw [ItK.L e] at x ⊢; exact x.extBut hs hab
theorem ItK.at {h h' : Heap} {a : Addr} {l : Bool × Addr} {k : Nat} (x : ItK h a l k) (q : ∀ o, h.get? a = some o → h'.get? a = some o) : ItK h' a l k := by
  cases e : l.1 with
  | true => rw [ItK.T e] at x ⊢; exact x.at q
  | false => rw [ItK.L e] at x ⊢; exact x.at q
theorem ItK.there {h : Heap} {a : Addr} {l : Bool × Addr} {k : Nat} (x : ItK h a l k) : ∃ o, h.get? a = some o ∧ ∀ v, o.data ≠ .cell v := by
  cases e : l.1 with
  | true =>
    rw [ItK.T e] at x
    obtain ⟨o, ho, _, hd⟩ := x
    exact ⟨o, ho, fun v q => by rw [hd] at q; cases q⟩
  | false =>
    rw [ItK.L e] at x
    obtain ⟨o, ho, _, hd⟩ := x
    exact ⟨o, ho, fun v q => by rw [hd] at q; cases q⟩
theorem SqK.at {h h' : Heap} {l : Bool × Addr} {xs : Array Value} (x : SqK h l xs) (q : ∀ o, h.get? l.2 = some o → h'.get? l.2 = some o) : SqK h' l xs := by
  cases e : l.1 with
  | true =>
    rw [SqK.T e] at x ⊢
    obtain ⟨o, ho, r⟩ := x
    exact ⟨o, q _ ho, r⟩
  | false =>
    rw [SqK.L e] at x ⊢
    obtain ⟨o, ho, r⟩ := x
    exact ⟨o, q _ ho, r⟩
theorem SqK.there {h : Heap} {l : Bool × Addr} {xs : Array Value} (x : SqK h l xs) : ∃ o, h.get? l.2 = some o := by
  cases e : l.1 with
  | true =>
    rw [SqK.T e] at x
    obtain ⟨o, ho, r⟩ := x
    exact ⟨o, ho⟩
  | false =>
    rw [SqK.L e] at x
    obtain ⟨o, ho, r⟩ := x
    exact ⟨o, ho⟩
section
variable {prog : Program} {w : World} {A : Around} {E : Value → Shared → Prop} {s : Shared}
theorem nextK_item {it : Addr} {l : Bool × Addr} {i : Nat} {items : Array Value} {x : Value} {Q : Value → Shared → Prop} (hi : ItK s.heap it l i) (hl : SqK s.heap l items) (hx : items[i]? = some x)
    (hQ : ∀ h', ItK h' it l (i + 1) → Heap.SameBut it s.heap h' → Q x { s with heap := h' }) : wpAny (model prog w) A (Builtin.SmallTypes.nextOf (.ref it)) Q E s := by
  cases e : l.1 with
  | true =>
    rw [ItK.T e] at hi
    rw [SqK.T e] at hl
    exact RZ.nextOf_tuple_item hi hl hx fun h' a c => hQ h' (by rw [ItK.T e]; exact a) c
  | false =>
    rw [ItK.L e] at hi
    rw [SqK.L e] at hl
    exact wpAny_nextOf_list_item hi hl hx fun h' a c => hQ h' (by rw [ItK.L e]; exact a) c
theorem nextK_end {it : Addr} {l : Bool × Addr} {i : Nat} {items : Array Value} {Q : Value → Shared → Prop} (hh : A.handled = none) (hi : ItK s.heap it l i) (hl : SqK s.heap l items) (hx : items[i]? = none)
    (hE : ∀ h' e, Heap.ExtBut it s.heap h' → (∃ o, h'.get? e = some o ∧ o.cls = .type "StopIteration") → E (.ref e) { s with heap := h' }) : wpAny (model prog w) A (Builtin.SmallTypes.nextOf (.ref it)) Q E s := by
  cases e : l.1 with
  | true =>
    rw [ItK.T e] at hi
    rw [SqK.T e] at hl
    exact RZ.nextOf_tuple_end hh hi hl hx hE
  | false =>
    rw [ItK.L e] at hi
    rw [SqK.L e] at hl
    exact wpAny_nextOf_list_end hh hi hl hx hE
theorem pyIterK {l : Bool × Addr} {items : Array Value} {Q : Value → Shared → Prop} (hl : SqK s.heap l items)
    (hQ : ∀ o : Obj, (∀ h' a, h'.get? a = some o → ItK h' a l 0) → o.isFreed = false → Q (.ref s.heap.objs.size) { s with heap := s.heap.push o }) : wpAny (model prog w) A (pyIter (.ref l.2)) Q E s := by
  cases e : l.1 with
  | true =>
    rw [SqK.T e] at hl
    exact wpAny_pyIter_tuple hl (hQ _ (fun h' a ha => by rw [ItK.T e]; exact ⟨_, ha, rfl, rfl⟩) rfl)
  | false =>
    rw [SqK.L e] at hl
    exact wpAny_pyIter_list hl (hQ _ (fun h' a ha => by rw [ItK.L e]; exact ⟨_, ha, rfl, rfl⟩) rfl)
end
def refsFrom (B n : Nat) : List Value := (List.range n).map fun i => Value.ref (B + i)
/-- while the i-th turn is under way: j of the iterators have turned -/
structure Mid (B n k j : Nat) (f0 : Value) (f1 : Bool) (ls : Nat → Bool × Addr) (ok : Array Value → Prop) (h0 h : Heap) : Prop where
  z : h.get? (B + n + 2) = some { cls := .type "zip", dict := none, data := .fields #[f0, .bool f1, .bool false, .ref (B + n), .ref (B + n + 1)], slots := #[] }
  ti : h.get? (B + n) = some { cls := .type "tuple", data := .seq (refsFrom B n).toArray }
  to : ∃ arr : Array Value, arr.size = n ∧ ok arr ∧ h.get? (B + n + 1) = some { cls := .type "tuple", data := .seq arr }
  its : ∀ i, i < n → ItK h (B + i) (ls i) (if i < j then k + 1 else k)
  sz : h.objs.size = h0.objs.size
  kp : ∀ c o, c < B ∨ B + n + 2 < c → h0.get? c = some o → h.get? c = some o
/-- the zip at B + n + 2 ahead of its k-th turn -/
structure ZipAt (B n k : Nat) (ls : Nat → Bool × Addr) (h : Heap) : Prop where
  z : ∃ (f0 : Value) (f1 : Bool), (f0 = .none ∨ ∃ a : Nat, f0 = rawInt a) ∧ h.get? (B + n + 2) = some { cls := .type "zip", dict := none, data := .fields #[f0, .bool f1, .bool false, .ref (B + n), .ref (B + n + 1)], slots := #[] }
  ti : h.get? (B + n) = some { cls := .type "tuple", data := .seq (refsFrom B n).toArray }
  to : ∃ arr : Array Value, arr.size = n ∧ h.get? (B + n + 1) = some { cls := .type "tuple", data := .seq arr }
  its : ∀ i, i < n → ItK h (B + i) (ls i) k
theorem drop_cons {α : Type} {l r : List α} {x : α} {j : Nat} (h : x :: r = l.drop j) : l[j]? = some x ∧ r = l.drop (j + 1) := by
  have h1 : (l.drop j)[0]? = some x := by rw [← h]; rfl
  rw [List.getElem?_drop] at h1
  refine ⟨by simpa using h1, ?_⟩
  have h2 : (l.drop j).drop 1 = r := by rw [← h]; rfl
  rw [List.drop_drop] at h2
  exact h2.symm
theorem refs_at {B n j : Nat} {v : Value} (h : (refsFrom B n)[j]? = some v) : j < n ∧ v = .ref (B + j) := by
  unfold refsFrom at h
  rw [List.getElem?_map] at h
  by_cases hj : j < n
  · rw [List.getElem?_range hj] at h
    exact ⟨hj, (Option.some.inj h).symm⟩
  · rw [List.getElem?_eq_none (by simp; omega)] at h
    cases h
theorem refs_len (B n : Nat) : (refsFrom B n).length = n := by unfold refsFrom; simp
theorem ne_add {a b : Nat} (h : (a : Int) ≠ b) : a ≠ b := fun e => h (by rw [e])
section
variable {prog : Program} {w : World} {A : Around} {E : Value → Shared → Prop} {s : Shared} {B n k j : Nat} {ls : Nat → Bool × Addr} {f0 : Value} {f1 : Bool} {ok : Array Value → Prop} {h0 h h' : Heap}
theorem Mid.turned (m : Mid B n k j f0 f1 ls ok h0 h) (hj : j < n) (hi : ItK h' (B + j) (ls j) (k + 1)) (sb : Heap.SameBut (B + j) h h') : Mid B n k (j + 1) f0 f1 ls ok h0 h' := by
  obtain ⟨arr, a1, a2, a3⟩ := m.to
  refine ⟨(sb.2 (B + n + 2) (ne_add (by omega))).trans m.z, (sb.2 (B + n) (ne_add (by omega))).trans m.ti, ⟨arr, a1, a2, (sb.2 (B + n + 1) (ne_add (by omega))).trans a3⟩, fun i hin => ?_, sb.1.trans m.sz, fun c o hc e => (sb.2 c (ne_add (by omega))).trans (m.kp c o hc e)⟩
  by_cases e : i = j
  · subst e
    rw [if_pos (Nat.lt_succ_self _)]
    exact hi
  · have := m.its i hin
    rw [show (if i < j + 1 then k + 1 else k) = if i < j then k + 1 else k from by by_cases q : i < j <;> simp [q] <;> omega]
    exact this.extBut sb.extBut (ne_add (by omega))
theorem Mid.mono {ok' : Array Value → Prop} (m : Mid B n k j f0 f1 ls ok h0 h) (q : ∀ a, ok a → ok' a) : Mid B n k j f0 f1 ls ok' h0 h := by
  obtain ⟨arr, a1, a2, a3⟩ := m.to
  exact ⟨m.z, m.ti, ⟨arr, a1, q _ a2, a3⟩, m.its, m.sz, m.kp⟩
/-- the j-th iterator gives its item -/
theorem Mid.next {rows : Nat → Array Value} {x : Nat → Value} {Q : Value → Shared → Prop} (m : Mid B n k j f0 f1 ls ok h0 s.heap) (hj : j < n) (hr : ∀ i, i < n → SqK s.heap (ls i) (rows i)) (hx : ∀ i, i < n → (rows i)[k]? = some (x i))
    (hQ : ∀ h', Mid B n k (j + 1) f0 f1 ls ok h0 h' → Q (x j) { s with heap := h' }) : wpAny (model prog w) A (Builtin.SmallTypes.nextOf (.ref (B + j))) Q E s := by
  have hi := m.its j hj
  rw [if_neg (Nat.lt_irrefl _)] at hi
  exact nextK_item hi (hr j hj) (hx j hj) fun h' h1 sb => hQ h' (m.turned hj h1 sb)
theorem tup_keep {rows : Nat → Array Value} (m : Mid B n k j f0 f1 ls ok h0 h) (hl : ∀ i, i < n → (ls i).2 < B) (hr : ∀ i, i < n → SqK h0 (ls i) (rows i)) : ∀ i, i < n → SqK h (ls i) (rows i) := fun i hi => (hr i hi).at fun o ho => m.kp _ _ (.inl (hl i hi)) ho
theorem Mid.wrote {f0' : Value} {f1' : Bool} (m : Mid B n k j f0 f1 ls ok h0 h) (hz : h'.get? (B + n + 2) = some { cls := .type "zip", dict := none, data := .fields #[f0', .bool f1', .bool false, .ref (B + n), .ref (B + n + 1)], slots := #[] }) (sb : Heap.SameBut (B + n + 2) h h') : Mid B n k j f0' f1' ls ok h0 h' := by
  obtain ⟨arr, a1, a2, a3⟩ := m.to
  exact ⟨hz, (sb.2 (B + n) (ne_add (by omega))).trans m.ti, ⟨arr, a1, a2, (sb.2 (B + n + 1) (ne_add (by omega))).trans a3⟩, fun i hi => (m.its i hi).extBut sb.extBut (ne_add (by omega)), sb.1.trans m.sz, fun c o hc e => (sb.2 c (ne_add (by omega))).trans (m.kp c o hc e)⟩
theorem Mid.put {x : Nat → Value} {arr : Array Value} (m : Mid B n k (j + 1) f0 f1 ls (fun _ => True) h0 h) (ha : arr.size = n) (hj : j < n) (hx : ∀ i, i < j → arr[i]? = some (x i)) (ht : h'.get? (B + n + 1) = some { cls := .type "tuple", data := .seq (arr.setIfInBounds j (x j)) }) (sb : Heap.SameBut (B + n + 1) h h') :
    Mid B n k (j + 1) f0 f1 ls (fun arr => ∀ i, i < j + 1 → arr[i]? = some (x i)) h0 h' := by
  refine ⟨(sb.2 (B + n + 2) (ne_add (by omega))).trans m.z, (sb.2 (B + n) (ne_add (by omega))).trans m.ti, ⟨arr.setIfInBounds j (x j), by simp [ha], fun i hi => ?_, ht⟩, fun i hi => (m.its i hi).extBut sb.extBut (ne_add (by omega)), sb.1.trans m.sz, fun c o hc e => (sb.2 c (ne_add (by omega))).trans (m.kp c o hc e)⟩
  by_cases e : i = j
  · subst e
    rw [Array.getElem?_setIfInBounds_self_of_lt (by omega)]
  · rw [Array.getElem?_setIfInBounds_ne (fun q => e q.symm)]
    exact hx i (by omega)
theorem zidx {l : List Value} {r : List (Value × Nat)} {x : Value × Nat} {j : Nat} (h : x :: r = (refsFrom B n).zipIdx.drop j) : j < n ∧ x = (.ref (B + j), j) ∧ r = (refsFrom B n).zipIdx.drop (j + 1) := by
  obtain ⟨ex, er⟩ := drop_cons h
  rw [List.getElem?_zipIdx] at ex
  cases hv : (refsFrom B n)[j]? with
  | none => rw [hv] at ex; cases ex
  | some u =>
    rw [hv] at ex
    obtain ⟨hj, rfl⟩ := refs_at hv
    refine ⟨hj, ?_, er⟩
    have := (Option.some.inj ex).symm
    simpa using this
theorem nil_drop {α : Type} {l : List α} {j : Nat} (h : [] = l.drop j) : l.length ≤ j := by
  have := congrArg List.length h
  rw [List.length_drop] at this
  simp at this
  omega
theorem alive {M : Model} {a : Addr} {Q : Option Obj → Shared → Prop} (h : Q (s.heap.get? a) s) : wpAny M A (loadIfAlive a) Q E s := fun _ _ _ => h
theorem arr_eq {arr : Array Value} {x : Nat → Value} (hs : arr.size = n) (h : ∀ i, i < n → arr[i]? = some (x i)) : arr.toList = (List.range n).map x := by
  apply List.ext_getElem?
  intro i
  rw [List.getElem?_map, Array.getElem?_toList]
  by_cases hi : i < n
  · rw [h i hi, List.getElem?_range hi] <;> rfl
  · rw [Array.getElem?_eq_none (by omega), List.getElem?_eq_none (by simp; omega)] <;> rfl

theorem next_item {rows : Nat → Array Value} {x : Nat → Value} {Q : Value → Shared → Prop} (hn : 0 < n) (hn2 : n ≤ 100000) (hz : ZipAt B n k ls s.heap) (hr : ∀ i, i < n → SqK s.heap (ls i) (rows i)) (hl : ∀ i, i < n → (ls i).2 < B) (hx : ∀ i, i < n → (rows i)[k]? = some (x i))
    (hQ : ∀ h', ZipAt B n (k + 1) ls h' → h'.get? s.heap.objs.size = some { cls := .type "tuple", data := .seq ((List.range n).map x).toArray } → h'.objs.size = s.heap.objs.size + 1 →
      (∀ c o, c < B ∨ B + n + 2 < c → s.heap.get? c = some o → h'.get? c = some o) → Q (.ref s.heap.objs.size) { s with heap := h' }) :
    wpAny (model prog w) A (Builtin.«zip.__next__» ⟨[.ref (B + n + 2)], []⟩) (fun fin s' => ∃ v, fin = .done (.ret v) ∧ Q v s') E s := by
  obtain ⟨⟨f0, f1, hf, hzz⟩, hti, ⟨arr, ha, hto⟩, hits⟩ := hz
  show wpAny _ _ (field (.ref (B + n + 2)) 2 >>= _) _ _ _
  refine wpAny_bind (wpAny_field hzz rfl (x := .bool false) rfl ?_)
  show wpAny _ _ (field (.ref (B + n + 2)) 3 >>= _) _ _ _
  refine wpAny_bind (wpAny_field hzz rfl (x := .ref (B + n)) rfl ?_)
  refine wpAny_bind (wpAny_seqItems hti rfl ?_)
  have he : (refsFrom B n).toArray.isEmpty = false := by
    rw [List.isEmpty_toArray]
    cases hh : refsFrom B n with
    | nil => have := refs_len B n; rw [hh] at this; simp at this; omega
    | cons _ _ => rfl
  simp only [he, Bool.false_eq_true, if_false]
  show wpAny _ _ (Builtin.SmallTypes.ownedTupleIsFree (.ref (B + n + 2)) >>= _) _ _ _
  have Z0 : Mid B n k 0 f0 f1 ls (fun _ => True) s.heap s.heap := ⟨hzz, hti, ⟨arr, ha, trivial, hto⟩, fun i hi => by rw [if_neg (Nat.not_lt_zero _)]; exact hits i hi, rfl, fun _ _ _ e => e⟩
  refine wpAny_bind (thn (Q := fun (b : Bool) s' => ∃ h1 f0' f1', s' = { s with heap := h1 } ∧ (b = true ∨ ∃ a : Nat, f0' = rawInt a) ∧ Mid B n k 0 f0' f1' ls (fun _ => True) s.heap h1) ?_ fun b s' hb => ?_)
  · unfold Builtin.SmallTypes.ownedTupleIsFree
    refine wpAny_bind (wpAny_field hzz rfl (x := f0) rfl ?_)
    rcases hf with rfl | ⟨a, rfl⟩
    · exact wpAny_pure ⟨s.heap, _, _, rfl, .inl rfl, Z0⟩
    · show wpAny _ _ (loadIfAlive ((a : Int).toNat) >>= _) _ _ _
      rw [Int.toNat_natCast]
      refine wpAny_bind (alive ?_)
      cases hg : s.heap.get? a with
      | none =>
        simp only [Option.isNone_none, if_true]
        exact wpAny_pure ⟨s.heap, _, _, rfl, .inl rfl, Z0⟩
      | some oa =>
        simp only [Option.isNone_some, Bool.false_eq_true, if_false]
        refine wpAny_bind (wpAny_field hzz rfl (x := .bool f1) rfl ?_)
        cases f1 with
        | true =>
          rw [if_neg (show ¬ ((Value.bool true != Value.bool true) = true) from Bool.false_ne_true)]
          exact wpAny_pure ⟨s.heap, _, _, rfl, .inr ⟨a, rfl⟩, Z0⟩
        | false =>
          rw [if_pos (show (Value.bool false != Value.bool true) = true from rfl)]
          refine wpAny_bind (wpAny_setField_rec hzz (by simp) fun h₃ he₃ hs₃ => ?_)
          exact wpAny_pure ⟨h₃, _, true, rfl, .inr ⟨a, rfl⟩, Z0.wrote he₃ hs₃⟩
  obtain ⟨h1, f0', f1', rfl, hb, m1⟩ := hb
  cases b with
  | true =>
    simp only [if_true]
    refine wpAny_bind (wpAny_rule ?_)
    refine wpAny_bind (wpAny_field m1.z rfl (x := .ref (B + n + 1)) rfl ?_)
    refine wpAny_bind (wpAny_setField_rec m1.z (by simp) fun h₃ he₃ hs₃ => ?_)
    have m3 : Mid B n k 0 .ellipsis f1' ls (fun _ => True) s.heap h₃ := m1.wrote he₃ hs₃
    refine wpAny_bind (wpAny_forIn_list _ (fun r (b : Option Fin × Unit) s' => b = (none, ()) ∧ ∃ j h2, r = (refsFrom B n).zipIdx.drop j ∧ s' = { s with heap := h2 } ∧ Mid B n k j .ellipsis f1' ls (fun arr => ∀ i, i < j → arr[i]? = some (x i)) s.heap h2) _ ?_ ?_ _ _ ?_)
    · rintro y rest b s1 ⟨rfl, j, h2, er, rfl, m⟩
      obtain ⟨hj, rfl, er2⟩ := zidx (l := []) er
      refine wpAny_bind (wpAny_onRaise ?_)
      show wpAny _ _ (Builtin.SmallTypes.nextOf (.ref (B + j)) >>= _) _ _ _
      refine wpAny_bind (Mid.next (s := { s with heap := h2 }) m hj (tup_keep m hl hr) hx fun h3 m3 => wpAny_pure ?_)
      obtain ⟨arr3, a1, a2, a3⟩ := m3.to
      refine wpAny_bind (wpAny_seqItems (s := { s with heap := h3 }) a3 rfl ?_)
      refine wpAny_bind (wpAny_updateSeq (s := { s with heap := h3 }) a3 rfl ?_)
      refine wpAny_bind (wpAny_letGo (wpAny_pure ⟨rfl, j + 1, _, er2, rfl, Mid.put (m3.mono fun _ _ => trivial) a1 hj a2 ?_ (Heap.SameBut.update ..)⟩))
      rw [Heap.get?_update_self _ a3 rfl]
      simp [Obj.mapSeq]
    · rintro b s1 ⟨rfl, j, h2, er, rfl, m⟩
      have hj := nil_drop er
      rw [List.length_zipIdx, refs_len] at hj
      obtain ⟨arr3, a1, a2, a3⟩ := m.to
      have ae := arr_eq a1 (fun i hi => a2 i (by omega))
      refine wpAny_bind (wpAny_seqItems (s := { s with heap := h2 }) a3 rfl ?_)
      refine wpAny_bind (wpAny_newTuple ?_ (by rw [Array.length_toList]; show arr3.size ≤ 2 ^ 24; omega))
      rw [ae, m.sz]
      have hzs : B + n + 2 < h2.objs.size := Heap.lt_size m.z
      have g1 := Heap.get?_push_of_some (o := { cls := .type "tuple", data := .seq ((List.range n).map x).toArray }) m.z
      have g2 : (h2.push { cls := .type "tuple", data := .seq ((List.range n).map x).toArray }).get? h2.objs.size = some { cls := .type "tuple", data := .seq ((List.range n).map x).toArray } := Heap.get?_push_size _ rfl
      generalize hP : h2.push { cls := .type "tuple", data := .seq ((List.range n).map x).toArray } = hp at g1 g2 ⊢
      have hps : hp.objs.size = s.heap.objs.size + 1 := by rw [← hP, Heap.size_push, m.sz]
      have gk : ∀ c o, h2.get? c = some o → hp.get? c = some o := fun c o e => by rw [← hP]; exact Heap.get?_push_of_some _ e
      rw [m.sz] at g2 hzs
      show wpAny _ _ (Builtin.SmallTypes.ownedTupleHandOut (.ref (B + n + 2)) (.ref s.heap.objs.size) >>= _) _ _ _
      refine wpAny_bind ?_
      unfold Builtin.SmallTypes.ownedTupleHandOut
      refine wpAny_bind (wpAny_setField_rec (s := { s with heap := hp }) g1 (by simp) fun h₇ hz₇ hs₇ => ?_)
      replace hz₇ : h₇.get? (B + n + 2) = some { cls := .type "zip", dict := none, data := .fields #[rawInt s.heap.objs.size, .bool f1', .bool false, .ref (B + n), .ref (B + n + 1)], slots := #[] } := hz₇
      refine wpAny_setField_rec (s := { s with heap := h₇ }) hz₇ (by simp) fun h₈ hz₈ hs₈ => ?_
      replace hz₈ : h₈.get? (B + n + 2) = some { cls := .type "zip", dict := none, data := .fields #[rawInt s.heap.objs.size, .bool false, .bool false, .ref (B + n), .ref (B + n + 1)], slots := #[] } := hz₈
      have up : ∀ c o, c ≠ B + n + 2 → h2.get? c = some o → h₈.get? c = some o := fun c o c1 e => hs₈.extBut _ _ c1 (hs₇.extBut _ _ c1 (gk c o e))
      refine wpAny_pure ⟨_, rfl, hQ h₈ ⟨⟨_, _, .inr ⟨_, rfl⟩, hz₈⟩, up (B + n) _ (ne_add (by omega)) m.ti, ⟨arr3, a1, up (B + n + 1) _ (ne_add (by omega)) a3⟩, fun i hi => ?_⟩ ?_ ?_ fun c o hc e => up c o (ne_add (by omega)) (m.kp c o hc e)⟩
      · have := m.its i hi
        rw [if_pos (by omega)] at this
        exact this.at fun o e => up (B + i) o (ne_add (by omega)) e
      · exact hs₈.extBut _ _ (Nat.ne_of_gt hzs) (hs₇.extBut _ _ (Nat.ne_of_gt hzs) g2)
      · rw [hs₈.1, hs₇.1]; exact hps
    · exact ⟨rfl, 0, h₃, rfl, rfl, m3.mono fun a _ i hi => absurd hi (Nat.not_lt_zero _)⟩
  | false =>
    simp only [Bool.false_eq_true, if_false]
    rw [List.forIn_toArray]
    refine wpAny_bind (wpAny_forIn_list _ (fun r (b : Option Fin × Array Value) s' => ∃ j h2, r = (refsFrom B n).drop j ∧ j ≤ n ∧ b = (none, ((List.range j).map x).toArray) ∧ s' = { s with heap := h2 } ∧ Mid B n k j f0' f1' ls (fun arr => True) s.heap h2) _ ?_ ?_ _ _ ?_)
    · rintro y rest b s1 ⟨j, h2, er, _, rfl, rfl, m⟩
      obtain ⟨ey, er2⟩ := drop_cons er
      obtain ⟨hj, rfl⟩ := refs_at ey
      refine wpAny_bind (wpAny_holding ?_)
      show wpAny _ _ (Builtin.SmallTypes.nextOf (.ref (B + j)) >>= _) _ _ _
      refine wpAny_bind (Mid.next (s := { s with heap := h2 }) m hj (tup_keep m hl hr) hx fun h3 m3 => wpAny_pure ?_)
      refine wpAny_pure ⟨j + 1, h3, er2, hj, ?_, rfl, m3⟩
      show (none, ((List.range j).map x).toArray.push (x j)) = _
      rw [List.push_toArray, List.range_succ, List.map_append] <;> rfl
    · rintro b s1 ⟨j, h2, er, hjn, rfl, rfl, m⟩
      have hj := nil_drop er
      rw [refs_len] at hj
      obtain rfl : j = n := Nat.le_antisymm hjn hj
      obtain ⟨arr3, a1, a2, a3⟩ := m.to
      refine wpAny_bind (wpAny_newTuple ?_ (by simp; show j ≤ 2 ^ 24; omega))
      have hzs : B + j + 2 < h2.objs.size := Heap.lt_size m.z
      refine wpAny_pure ⟨_, rfl, ?_⟩
      show Q (.ref h2.objs.size) _
      have up : ∀ c o, h2.get? c = some o → (h2.push { cls := .type "tuple", data := .seq ((List.range j).map x).toArray }).get? c = some o := fun c o e => Heap.get?_push_of_some _ e
      have g2 : (h2.push { cls := .type "tuple", data := .seq ((List.range j).map x).toArray }).get? h2.objs.size = some { cls := .type "tuple", data := .seq ((List.range j).map x).toArray } := Heap.get?_push_size _ rfl
      rw [m.sz] at g2 ⊢
      refine hQ _ ⟨⟨_, _, .inr ?_, up _ _ m.z⟩, up _ _ m.ti, ⟨arr3, a1, up _ _ a3⟩, fun i hi => ?_⟩ g2 ?_ fun c o hc e => up _ _ (m.kp c o hc e)
      · rcases hb with hb | hb
        · cases hb
        · exact hb
      · have := m.its i hi
        rw [if_pos hi] at this
        exact this.at fun o e => up _ o e
      · rw [Heap.size_push, m.sz]
    · exact ⟨0, h1, rfl, Nat.zero_le _, rfl, rfl, m1⟩
theorem next_end {rows : Nat → Array Value} {Q : Fin → Shared → Prop} (hh : A.handled = none) (hn : 0 < n) (hz : ZipAt B n k ls s.heap) (hr : ∀ i, i < n → SqK s.heap (ls i) (rows i)) (hl : ∀ i, i < n → (ls i).2 < B) (hx : (rows 0)[k]? = none)
    (hE : ∀ h' e, (∀ c o, c < B ∨ B + n + 2 < c → s.heap.get? c = some o → h'.get? c = some o) → (∃ o, h'.get? e = some o ∧ o.cls = .type "StopIteration") → E (.ref e) { s with heap := h' }) :
    wpAny (model prog w) A (Builtin.«zip.__next__» ⟨[.ref (B + n + 2)], []⟩) Q E s := by
  obtain ⟨⟨f0, f1, hf, hzz⟩, hti, ⟨arr, ha, hto⟩, hits⟩ := hz
  show wpAny _ _ (field (.ref (B + n + 2)) 2 >>= _) _ _ _
  refine wpAny_bind (wpAny_field hzz rfl (x := .bool false) rfl ?_)
  show wpAny _ _ (field (.ref (B + n + 2)) 3 >>= _) _ _ _
  refine wpAny_bind (wpAny_field hzz rfl (x := .ref (B + n)) rfl ?_)
  refine wpAny_bind (wpAny_seqItems hti rfl ?_)
  have he : (refsFrom B n).toArray.isEmpty = false := by
    rw [List.isEmpty_toArray]
    cases hh : refsFrom B n with
    | nil => have := refs_len B n; rw [hh] at this; simp at this; omega
    | cons _ _ => rfl
  simp only [he, Bool.false_eq_true, if_false]
  show wpAny _ _ (Builtin.SmallTypes.ownedTupleIsFree (.ref (B + n + 2)) >>= _) _ _ _
  have Z0 : Mid B n k 0 f0 f1 ls (fun _ => True) s.heap s.heap := ⟨hzz, hti, ⟨arr, ha, trivial, hto⟩, fun i hi => by rw [if_neg (Nat.not_lt_zero _)]; exact hits i hi, rfl, fun _ _ _ e => e⟩
  refine wpAny_bind (thn (Q := fun (b : Bool) s' => ∃ h1 f0' f1', s' = { s with heap := h1 } ∧ (b = true ∨ ∃ a : Nat, f0' = rawInt a) ∧ Mid B n k 0 f0' f1' ls (fun _ => True) s.heap h1) ?_ fun b s' hb => ?_)
  · unfold Builtin.SmallTypes.ownedTupleIsFree
    refine wpAny_bind (wpAny_field hzz rfl (x := f0) rfl ?_)
    rcases hf with rfl | ⟨a, rfl⟩
    · exact wpAny_pure ⟨s.heap, _, _, rfl, .inl rfl, Z0⟩
    · show wpAny _ _ (loadIfAlive ((a : Int).toNat) >>= _) _ _ _
      rw [Int.toNat_natCast]
      refine wpAny_bind (alive ?_)
      cases hg : s.heap.get? a with
      | none =>
        simp only [Option.isNone_none, if_true]
        exact wpAny_pure ⟨s.heap, _, _, rfl, .inl rfl, Z0⟩
      | some oa =>
        simp only [Option.isNone_some, Bool.false_eq_true, if_false]
        refine wpAny_bind (wpAny_field hzz rfl (x := .bool f1) rfl ?_)
        cases f1 with
        | true =>
          rw [if_neg (show ¬ ((Value.bool true != Value.bool true) = true) from Bool.false_ne_true)]
          exact wpAny_pure ⟨s.heap, _, _, rfl, .inr ⟨a, rfl⟩, Z0⟩
        | false =>
          rw [if_pos (show (Value.bool false != Value.bool true) = true from rfl)]
          refine wpAny_bind (wpAny_setField_rec hzz (by simp) fun h₃ he₃ hs₃ => ?_)
          exact wpAny_pure ⟨h₃, _, true, rfl, .inr ⟨a, rfl⟩, Z0.wrote he₃ hs₃⟩
  obtain ⟨h1, f0', f1', rfl, hb, m1⟩ := hb
  have i0 := m1.its 0 hn
  rw [if_neg (Nat.lt_irrefl _)] at i0
  have t0 := tup_keep m1 hl hr 0 hn
  obtain ⟨tl, hc⟩ : ∃ tl, refsFrom B n = .ref (B + 0) :: tl := by
    obtain ⟨m, rfl⟩ : ∃ m, n = m + 1 := ⟨n - 1, by omega⟩
    unfold refsFrom
    rw [List.range_succ_eq_map]
    exact ⟨_, rfl⟩
  cases b with
  | true =>
    simp only [if_true]
    refine wpAny_bind (wpAny_rule ?_)
    refine wpAny_bind (wpAny_field m1.z rfl (x := .ref (B + n + 1)) rfl ?_)
    refine wpAny_bind (wpAny_setField_rec m1.z (by simp) fun h₃ he₃ hs₃ => ?_)
    have m3 : Mid B n k 0 .ellipsis f1' ls (fun _ => True) s.heap h₃ := m1.wrote he₃ hs₃
    have i3 := m3.its 0 hn
    rw [if_neg (Nat.lt_irrefl _)] at i3
    have t3 := tup_keep m3 hl hr 0 hn
    rw [hc, List.zipIdx_cons, List.forIn_cons]
    refine wpAny_bind (wpAny_bind (wpAny_bind (wpAny_onRaise ?_)))
    show wpAny _ _ (Builtin.SmallTypes.nextOf (.ref (B + 0)) >>= _) _ _ _
    refine wpAny_bind (nextK_end (s := { s with heap := h₃ }) hh i3 t3 hx fun h₂ e hs₂ he => ?_)
    obtain ⟨oe, hoe, hce⟩ := he
    have hz₂ := hs₂ _ _ (ne_add (by omega)) m3.z
    have hez : e ≠ B + n + 2 := fun x => by subst x; rw [hz₂] at hoe; cases hoe; simp at hce
    refine wpAny_setField_rec (s := { s with heap := h₂ }) hz₂ (by simp) fun h₅ _ hs₅ => hE h₅ e (fun c o hc x => hs₅.extBut _ _ (ne_add (by omega)) (hs₂ _ _ (ne_add (by omega)) (m3.kp c o hc x))) ⟨oe, hs₅.extBut _ _ hez hoe, hce⟩
  | false =>
    simp only [Bool.false_eq_true, if_false]
    rw [List.forIn_toArray, hc, List.forIn_cons]
    refine wpAny_bind (wpAny_bind (wpAny_bind (wpAny_holding ?_)))
    show wpAny _ _ (Builtin.SmallTypes.nextOf (.ref (B + 0)) >>= _) _ _ _
    refine wpAny_bind (nextK_end (s := { s with heap := h1 }) hh i0 t0 hx fun h₂ e hs₂ he => hE h₂ e (fun c o hc x => hs₂ _ _ (ne_add (by omega)) (m1.kp c o hc x)) he)
theorem pyNext_item {rows : Nat → Array Value} {x : Nat → Value} {Q : Option Value → Shared → Prop} (hn : 0 < n) (hn2 : n ≤ 100000) (hz : ZipAt B n k ls s.heap) (hr : ∀ i, i < n → SqK s.heap (ls i) (rows i)) (hl : ∀ i, i < n → (ls i).2 < B) (hx : ∀ i, i < n → (rows i)[k]? = some (x i))
    (hQ : ∀ h', ZipAt B n (k + 1) ls h' → h'.get? s.heap.objs.size = some { cls := .type "tuple", data := .seq ((List.range n).map x).toArray } → h'.objs.size = s.heap.objs.size + 1 →
      (∀ c o, c < B ∨ B + n + 2 < c → s.heap.get? c = some o → h'.get? c = some o) → Q (some (.ref s.heap.objs.size)) { s with heap := h' }) :
    wpAny (model prog w) A (pyNext (.ref (B + n + 2))) Q E s := by
  obtain ⟨f0, f1, _, hzz⟩ := hz.z
  have hT : s.TypeIs (.ref (B + n + 2)) "zip" := ⟨_, hzz, rfl⟩
  unfold pyNext
  exact wpAny_bind (wpAny_attempt (wpAny_callSpecial?_slot (name := Str.ofString "__next__") hT F.slot_zip_next
    (wpAny_call_entry F.slot_zip_next hT F.entry_zip_next
      (next_item hn hn2 hz hr hl hx fun h' a1 a2 a3 a4 => wpAny_pure (hQ h' a1 a2 a3 a4)) (F.args_zip_next_1 _))))
theorem pyNext_end {rows : Nat → Array Value} {Q : Option Value → Shared → Prop} (hh : A.handled = none) (hn : 0 < n) (hz : ZipAt B n k ls s.heap) (hr : ∀ i, i < n → SqK s.heap (ls i) (rows i)) (hl : ∀ i, i < n → (ls i).2 < B) (hx : (rows 0)[k]? = none)
    (hQ : ∀ h', (∀ c o, c < B ∨ B + n + 2 < c → s.heap.get? c = some o → h'.get? c = some o) → Q none { s with heap := h' }) : wpAny (model prog w) A (pyNext (.ref (B + n + 2))) Q E s := by
  obtain ⟨f0, f1, _, hzz⟩ := hz.z
  have hT : s.TypeIs (.ref (B + n + 2)) "zip" := ⟨_, hzz, rfl⟩
  unfold pyNext
  refine wpAny_bind (wpAny_attempt (wpAny_callSpecial?_slot (name := Str.ofString "__next__") hT F.slot_zip_next
    (wpAny_call_entry F.slot_zip_next hT F.entry_zip_next (next_end hh hn hz hr hl hx fun h' e hk he => ?_) (F.args_zip_next_1 _))))
  obtain ⟨o, ho, hc⟩ := he
  refine wpAny_bind (wpAny_isInstance (T := "StopIteration") (b := true) ⟨o, ho, hc⟩ isSubtype_stop ?_)
  exact wpAny_pure (hQ _ hk)
theorem self_zip {Q : Value → Shared → Prop} (hz : ZipAt B n k ls s.heap) (h : Q (.ref (B + n + 2)) s) : wpAny (model prog w) A (pyIter (.ref (B + n + 2))) Q E s := by
  obtain ⟨f0, f1, _, hzz⟩ := hz.z
  have hT : s.TypeIs (.ref (B + n + 2)) "zip" := ⟨_, hzz, rfl⟩
  refine wpAny_pyIter_slot hT F.slot_zip_iter (wpAny_call_entry F.slot_zip_iter hT F.entry_zip_iter ?_ (F.args_zip_iter_1 _))
  show wpAny _ _ (ret (.ref (B + n + 2))) _ _ s
  exact wpAny_pure ⟨_, rfl, "zip", _, hT, F.slot_zip_next.lookup, h⟩
theorem typeCall_zip (v : Value) (vs : List Value) : checkTypeCall "zip" ⟨v :: vs, []⟩ = pure () := by kernel_rfl
theorem newCall_zip (v : Value) (vs : List Value) : checkBuiltinCall "zip.__new__" ⟨.type "zip" :: v :: vs, []⟩ = pure () := by kernel_rfl
theorem args_init (c v : Value) (vs : List Value) : argsOk "object.__init__" ⟨c :: v :: vs, []⟩ := by
  unfold argsOk; rw [signature?_of (id := "object.__init__") (n := ['_', '_', 't', 'i', 'n', 'i', '_', '_']) (o := ['t', 'c', 'e', 'j', 'b', 'o']) (by kernel_rfl) F.owner_object]; kernel_rfl
end
section
variable {prog : Program} {w : World} {A : Around} {E : Value → Shared → Prop} {s : Shared} {n : Nat} {ls : Nat → Bool × Addr} {rows : Nat → Array Value}
def addrs (ls : Nat → Bool × Addr) (n : Nat) : List Value := (List.range n).map fun i => Value.ref (ls i).2
theorem addrs_at {j : Nat} {v : Value} (h : (addrs ls n)[j]? = some v) : j < n ∧ v = .ref (ls j).2 := by
  unfold addrs at h
  rw [List.getElem?_map] at h
  by_cases hj : j < n
  · rw [List.getElem?_range hj] at h
    exact ⟨hj, (Option.some.inj h).symm⟩
  · rw [List.getElem?_eq_none (by simp; omega)] at h
    cases h
theorem iterAll_n {Q : List Value → Shared → Prop} (hr : ∀ i, i < n → SqK s.heap (ls i) (rows i))
    (hQ : ∀ h', h'.objs.size = s.heap.objs.size + n → (∀ i, i < n → ItK h' (s.heap.objs.size + i) (ls i) 0) → (∀ c o, s.heap.get? c = some o → h'.get? c = some o) → Q (refsFrom s.heap.objs.size n) { s with heap := h' }) :
    wpAny (model prog w) A (Builtin.SmallTypes.iterAll (addrs ls n)) Q E s := by
  unfold Builtin.SmallTypes.iterAll
  refine wpAny_bind (wpAny_forIn_list _ (fun r (b : Array Value) s' => ∃ j h2, r = (addrs ls n).drop j ∧ j ≤ n ∧ b = (refsFrom s.heap.objs.size j).toArray ∧ s' = { s with heap := h2 } ∧ h2.objs.size = s.heap.objs.size + j ∧ (∀ i, i < j → ItK h2 (s.heap.objs.size + i) (ls i) 0) ∧ (∀ c o, s.heap.get? c = some o → h2.get? c = some o)) _ ?_ ?_ _ _ ?_)
  · rintro y rest b s1 ⟨j, h2, er, _, rfl, rfl, h3, h4, h5⟩
    obtain ⟨ey, er2⟩ := drop_cons er
    obtain ⟨hj, rfl⟩ := addrs_at ey
    refine wpAny_bind (wpAny_holding (pyIterK (s := { s with heap := h2 }) (l := ls j) (items := rows j) ((hr j hj).at fun o ho => h5 _ _ ho) fun oi hoi hfr => ?_))
    refine wpAny_pure ⟨j + 1, _, er2, hj, ?_, rfl, ?_, fun i hi => ?_, fun c o e => Heap.get?_push_of_some _ (h5 c o e)⟩
    · show (refsFrom s.heap.objs.size j).toArray.push (.ref h2.objs.size) = _
      rw [List.push_toArray, h3]
      unfold refsFrom
      rw [List.range_succ, List.map_append] <;> rfl
    · rw [Heap.size_push, h3] <;> rfl
    · by_cases e : i = j
      · subst e
        rw [← h3]
        exact hoi _ _ (Heap.get?_push_size _ hfr)
      · exact (h4 i (by omega)).at fun o e => Heap.get?_push_of_some _ e
  · rintro b s1 ⟨j, h2, er, hjn, rfl, rfl, h3, h4, h5⟩
    have hj := nil_drop er
    unfold addrs at hj
    rw [List.length_map, List.length_range] at hj
    obtain rfl : j = n := Nat.le_antisymm hjn hj
    exact wpAny_pure (hQ h2 h3 h4 h5)
  · exact ⟨0, s.heap, rfl, Nat.zero_le _, rfl, rfl, rfl, fun i hi => absurd hi (Nat.not_lt_zero _), fun _ _ e => e⟩
theorem newClass_zip (vs : List Value) : Builtin.SmallTypes.newClass "zip" ⟨.type "zip" :: vs, []⟩ = pure (.type "zip", vs) := by
  unfold Builtin.SmallTypes.newClass
  show (isType (.type "zip") >>= _) = _
  rw [show isType (.type "zip") = pure true from by kernel_rfl]
  show (isSubtype (.type "zip") (.type "zip") >>= _) = _
  rw [sub_zip]
  rfl
theorem meets_new (n : Nat) (hn2 : n ≤ 100000) (ls : Nat → Bool × Addr) (rows : Nat → Array Value) :
    Meets (Builtin.«zip.__new__» ⟨.type "zip" :: addrs ls n, []⟩) (fun _ R s => (∀ i, i < n → SqK s.heap (ls i) (rows i)) ∧
      ∀ h', ZipAt s.heap.objs.size n 0 ls h' → (∀ c o, s.heap.get? c = some o → h'.get? c = some o) → R (.ok (.ret (.ref (s.heap.objs.size + n + 2)))) { s with heap := h' }) :=
  .of_wp fun prog w A R s h => by
    obtain ⟨hr, h⟩ := h
    have hsub := sub_zip
    unfold Builtin.«zip.__new__»
    refine wpAny_bind (wpAny_of_eq (newClass_zip _) ?_)
    show wpAny _ _ (Builtin.SmallTypes.iterAll (addrs ls n) >>= _) _ _ _
    refine wpAny_bind (iterAll_n hr fun h1 z1 i1 k1 => ?_)
    refine wpAny_bind (wpAny_newTuple ?_ (by rw [refs_len]; show n ≤ 2 ^ 24; omega))
    refine wpAny_bind (wpAny_newTuple ?_ (by rw [List.length_map, refs_len]; show n ≤ 2 ^ 24; omega))
    have g1 : (h1.push { cls := .type "tuple", data := .seq (refsFrom s.heap.objs.size n).toArray }).get? h1.objs.size = some { cls := .type "tuple", data := .seq (refsFrom s.heap.objs.size n).toArray } := Heap.get?_push_size _ rfl
    have u1 : ∀ c o, h1.get? c = some o → (h1.push { cls := .type "tuple", data := .seq (refsFrom s.heap.objs.size n).toArray }).get? c = some o := fun c o e => Heap.get?_push_of_some _ e
    have s1 : (h1.push { cls := .type "tuple", data := .seq (refsFrom s.heap.objs.size n).toArray }).objs.size = s.heap.objs.size + n + 1 := by rw [Heap.size_push, z1]
    rw [z1] at g1 ⊢
    generalize h1.push { cls := .type "tuple", data := .seq (refsFrom s.heap.objs.size n).toArray } = h2 at g1 u1 s1 ⊢
    have g2 : (h2.push { cls := .type "tuple", data := .seq ((refsFrom s.heap.objs.size n).map fun _ => Value.none).toArray }).get? h2.objs.size = some { cls := .type "tuple", data := .seq ((refsFrom s.heap.objs.size n).map fun _ => Value.none).toArray } := Heap.get?_push_size _ rfl
    have u2 : ∀ c o, h2.get? c = some o → (h2.push { cls := .type "tuple", data := .seq ((refsFrom s.heap.objs.size n).map fun _ => Value.none).toArray }).get? c = some o := fun c o e => Heap.get?_push_of_some _ e
    have s2 : (h2.push { cls := .type "tuple", data := .seq ((refsFrom s.heap.objs.size n).map fun _ => Value.none).toArray }).objs.size = s.heap.objs.size + n + 2 := by rw [Heap.size_push, s1]
    rw [s1] at g2 ⊢
    generalize h2.push { cls := .type "tuple", data := .seq ((refsFrom s.heap.objs.size n).map fun _ => Value.none).toArray } = h3 at g2 u2 s2 ⊢
    refine wpAny_bind ?_
    show wpAny _ _ (newObj (.type "zip") (.fields #[.none, .bool false, .bool false, .ref (s.heap.objs.size + n), .ref (s.heap.objs.size + n + 1)])) _ _ _
    refine wpAny_newObj_type ?_
    have g3 : (h3.push { cls := .type "zip", data := .fields #[.none, .bool false, .bool false, .ref (s.heap.objs.size + n), .ref (s.heap.objs.size + n + 1)] }).get? h3.objs.size = some { cls := .type "zip", data := .fields #[.none, .bool false, .bool false, .ref (s.heap.objs.size + n), .ref (s.heap.objs.size + n + 1)] } := Heap.get?_push_size _ rfl
    have u3 : ∀ c o, h3.get? c = some o → (h3.push { cls := .type "zip", data := .fields #[.none, .bool false, .bool false, .ref (s.heap.objs.size + n), .ref (s.heap.objs.size + n + 1)] }).get? c = some o := fun c o e => Heap.get?_push_of_some _ e
    rw [s2] at g3
    refine wpAny_pure ⟨_, rfl, ?_⟩
    show R (.ok (.ret (.ref h3.objs.size))) _
    rw [s2]
    refine h _ ⟨⟨_, _, .inl rfl, g3⟩, u3 _ _ (u2 _ _ g1), ⟨_, ?_, u3 _ _ g2⟩, fun i hi => (i1 i hi).at fun o e => u3 _ _ (u2 _ _ (u1 _ _ e))⟩ fun c o e => u3 _ _ (u2 _ _ (u1 _ _ (k1 c o e)))
    simp [refs_len]
theorem call_zipN {Q : Value → Shared → Prop} (hn : 0 < n) (hn2 : n ≤ 100000) (hr : ∀ i, i < n → SqK s.heap (ls i) (rows i))
    (h : ∀ h', ZipAt s.heap.objs.size n 0 ls h' → (∀ c o, s.heap.get? c = some o → h'.get? c = some o) → Q (.ref (s.heap.objs.size + n + 2)) { s with heap := h' }) : wpAny (model prog w) A (call (.type "zip") (addrs ls n)) Q E s := by
  obtain ⟨v, vs, hv⟩ : ∃ v vs, addrs ls n = v :: vs := by
    obtain ⟨m, rfl⟩ : ∃ m, n = m + 1 := ⟨n - 1, by omega⟩
    unfold addrs
    rw [List.range_succ_eq_map]
    exact ⟨_, _, rfl⟩
  have M := meets_new n hn2 ls rows
  rw [hv] at M ⊢
  refine callType_new F.called_zip (by decide) (typeCall_zip _ _) (newCall_zip _ _) (fun obj => args_init _ _ _) F.entry_zip_new M ⟨hr, fun h' z k => ?_⟩
  obtain ⟨f0, f1, _, hzz⟩ := z.z
  exact ⟨⟨_, hzz, rfl⟩, h h' z k⟩
end
/-! ### as an iterable -/
/-- a tuple, or a list, that may be read -/
def SqB (K : PySem.W.Frag) (H : Hp) (a : Bool × Addr) (xs : List V) : Prop := if a.1 = true then SqT K H a.2 xs else SqL K H a.2 xs
theorem SqB.vals {X : Cx} {pins : List (Addr × Obj)} {σ : L2.St} {H : Hp} {s : Shared} {a : Bool × Addr} {xs : List V} (I : Inv X pins σ H s) (h : SqB X.K H a xs) : ∃ its : List Value, Vals xs its ∧ SqK s.heap a its.toArray := by
  unfold SqB at h
  by_cases e : a.1 = true
  · rw [if_pos e] at h
    obtain ⟨its, rv, p, _⟩ := I.tuple h
    exact ⟨its, rv, by rw [SqK.T e]; exact p⟩
  · rw [if_neg e] at h
    obtain ⟨its, rv, p, _⟩ := I.list h
    exact ⟨its, rv, by rw [SqK.L (by simpa using e)]; exact p.isList⟩
theorem SqB.T {K : PySem.W.Frag} {H : Hp} {a : Addr} {xs : List V} (h : SqT K H a xs) : SqB K H (true, a) xs := by
  unfold SqB
  exact h
/-- zip of the tuples and lists at as, which are rows, m items each -/
def ItN (K : PySem.W.Frag) (as : List (Bool × Addr)) (rows : List (List V)) (m : Nat) : It :=
  ⟨fun i H => i < m ∧ ∀ (j : Nat) (a : Bool × Addr) (xs : List V), as[j]? = some a → rows[j]? = some xs → SqB K H a xs,
    fun i H v H' => ∃ T, v = .ref T ∧ H T = none ∧ H' = upd H T (.tup (rows.map fun xs => xs.getD i .non)),
    fun i H => m ≤ i ∧ ∀ (j : Nat) (a : Bool × Addr) (xs : List V), as[j]? = some a → rows[j]? = some xs → SqB K H a xs⟩
theorem vals_map {α : Type} : ∀ {l : List α} {f : α → V} {g : Nat → Value}, (∀ j a, l[j]? = some a → RelV (f a) (g j)) → Vals (l.map f) ((List.range l.length).map g)
  | [], _, _, _ => .nil
  | a :: l, f, g, h => by
    rw [List.map_cons, List.length_cons, List.range_succ_eq_map, List.map_cons, List.map_map]
    exact .cons (h 0 a rfl) (vals_map fun j b e => h (j + 1) b (by simpa using e))
theorem ZipAt.keep {B n k : Nat} {ls : Nat → Bool × Addr} {h h' : Heap} (z : ZipAt B n k ls h) (kp : ∀ b : Nat, B ≤ b → b < B + n + 3 → ∀ o, h.get? b = some o → h'.get? b = some o) : ZipAt B n k ls h' := by
  obtain ⟨⟨f0, f1, hf, hz⟩, ti, ⟨arr, ha, to⟩, its⟩ := z
  exact ⟨⟨f0, f1, hf, kp _ (by omega) (by omega) _ hz⟩, kp _ (by omega) (by omega) _ ti, ⟨arr, ha, kp _ (by omega) (by omega) _ to⟩, fun i hi => (its i hi).at fun o e => kp _ (by omega) (by omega) _ e⟩
def fps (B n : Nat) : List Nat := (List.range (n + 3)).map fun i => B + i
theorem mem_fps {B n : Nat} {b : Nat} : b ∈ fps B n ↔ B ≤ b ∧ b < B + n + 3 := by
  unfold fps
  rw [List.mem_map]
  constructor
  · rintro ⟨i, hi, rfl⟩
    have := List.mem_range.mp hi
    exact ⟨by omega, by omega⟩
  · rintro ⟨h1, h2⟩
    exact ⟨b - B, List.mem_range.mpr (by omega), by omega⟩
theorem fps_cases {B n c : Nat} (h : c ∈ fps B n) : c = B + n + 2 ∨ c = B + n ∨ c = B + n + 1 ∨ ∃ i, i < n ∧ c = B + i := by
  have := mem_fps.mp h
  by_cases e1 : c = B + n + 2
  · exact .inl e1
  by_cases e2 : c = B + n
  · exact .inr (.inl e2)
  by_cases e3 : c = B + n + 1
  · exact .inr (.inr (.inl e3))
  exact .inr (.inr (.inr ⟨c - B, by omega, by omega⟩))
theorem fps_out {B n c : Nat} (h : c ∉ fps B n) : c < B ∨ B + n + 2 < c := by
  by_cases q1 : c < B
  · exact .inl q1
  · refine .inr ?_
    by_cases q2 : B + n + 2 < c
    · exact q2
    · exact absurd (mem_fps.mpr ⟨by omega, by omega⟩) h
theorem fps_lt {B n c z : Nat} (h : c ∈ fps B n) (hz : B + n + 2 < z) : c < z := by
  have := (mem_fps.mp h).2
  omega
theorem rows_at {X : Cx} {pins : List (Addr × Obj)} {σ : L2.St} {H : Hp} {s : Shared} {as : List (Bool × Addr)} {rows : List (List V)} (I : Inv X pins σ H s) (hl : as.length = rows.length) (hq : ∀ (j : Nat) (a : Bool × Addr) (xs : List V), as[j]? = some a → rows[j]? = some xs → SqB X.K H a xs) :
    ∃ its : Nat → List Value, ∀ j, j < rows.length → Vals (rows.getD j []) (its j) ∧ SqK s.heap (as.getD j (false, 0)) (its j).toArray := by
  have ex : ∀ j, ∃ its : List Value, j < rows.length → Vals (rows.getD j []) its ∧ SqK s.heap (as.getD j (false, 0)) its.toArray := fun j => by
    by_cases hj : j < rows.length
    · have hj2 : j < as.length := by omega
      obtain ⟨its, rv, p⟩ := SqB.vals I (hq j as[j] rows[j] (List.getElem?_eq_getElem hj2) (List.getElem?_eq_getElem hj))
      refine ⟨its, fun _ => ⟨?_, ?_⟩⟩
      · rw [List.getD_eq_getElem?_getD, List.getElem?_eq_getElem hj]
        exact rv
      · rw [List.getD_eq_getElem?_getD, List.getElem?_eq_getElem hj2]
        exact p
    · exact ⟨[], fun h => absurd h hj⟩
  exact ⟨fun j => Classical.choose (ex j), fun j => Classical.choose_spec (ex j)⟩
theorem turn_zipN {P : Program} {w : World} {K : PySem.W.Frag} {x : Str} {tpos : Pos} {as : List (Bool × Addr)} {rows : List (List V)} {m B : Nat} (hl : as.length = rows.length) (h0 : 0 < rows.length) (h1 : rows.length ≤ 100000) (hm : ∀ (j : Nat) (xs : List V), rows[j]? = some xs → xs.length = m) (hB : ∀ j, j < rows.length → (as.getD j (false, 0)).2 < B) :
    Turn P w K (.Name x tpos) (ItN K as rows m) (fps B rows.length) (B + rows.length + 2) (fun i h => ZipAt B rows.length i (fun j => as.getD j (false, 0)) h) where
  mem := mem_fps.mpr ⟨by omega, by omega⟩
  obj := fun i h st c hc => by
    obtain ⟨⟨f0, f1, hf, hz⟩, ti, ⟨arr, ha, to⟩, its⟩ := st
    rcases fps_cases hc with e | e | e | ⟨j, hj, e⟩
    · rw [e]; exact ⟨_, hz, fun v q => nomatch q⟩
    · rw [e]; exact ⟨_, ti, fun v q => nomatch q⟩
    · rw [e]; exact ⟨_, to, fun v q => nomatch q⟩
    · rw [e]
      exact (its j hj).there
  keep := fun i h h' st k => st.keep fun b b1 b2 o e => k b (mem_fps.mpr ⟨b1, b2⟩) o e
  item := by
    intro X hP hw hK hc i pins s σ H E I hf st hg
    subst hP hw hK
    have hg' := hg
    obtain ⟨hi, hq⟩ := hg'
    obtain ⟨its, hits⟩ := rows_at I hl hq
    have hlen : ∀ j, j < rows.length → (its j).length = m := fun j hj => by
      rw [← (hits j hj).1.length, List.getD_eq_getElem?_getD, List.getElem?_eq_getElem hj]
      exact hm j _ (List.getElem?_eq_getElem hj)
    have hx : ∀ j, j < rows.length → (its j).toArray[i]? = some ((its j).getD i .none) := fun j hj => by
      have := hlen j hj
      rw [List.getElem?_toArray, List.getD_eq_getElem?_getD, List.getElem?_eq_getElem (by omega)] <;> rfl
    refine pyNext_item h0 h1 st (fun j hj => (hits j hj).2) hB hx fun h' z' hT hsz hk => ?_
    have new : ObjOk X.prog X.w (upd H s.heap.objs.size (.tup (rows.map fun xs => xs.getD i .non))) h' s.heap.objs.size (.tup (rows.map fun xs => xs.getD i .non)) := by
      refine ⟨by rw [List.length_map]; show _ ≤ 2 ^ 24; omega, _, vals_map (g := fun j => (its j).getD i .none) fun j xs hj => ?_, ⟨_, hT, rfl, _, rfl⟩⟩
      have hjl : j < rows.length := (List.getElem?_eq_some_iff.mp hj).1
      have rv := (hits j hjl).1
      rw [List.getD_eq_getElem?_getD, hj] at rv
      have hi2 : i < xs.length := by rw [hm j xs hj]; exact hi
      obtain ⟨u, hu, ru⟩ := Vals.get rv (List.getElem?_eq_getElem hi2)
      rw [List.getD_eq_getElem?_getD, List.getElem?_eq_getElem hi2, List.getD_eq_getElem?_getD, hu]
      exact ru
    have I1 : Inv X pins σ (upd H s.heap.objs.size (.tup (rows.map fun xs => xs.getD i .non))) { s with heap := h' } :=
      I.turnedNew (t' := s.toks) (ch := fps B rows.length) (fun c o hb q => hk c o (fps_out hb) q) hf (Nat.le_refl _) new
    refine ⟨_, rfl, wpAny_pure ⟨.ref s.heap.objs.size, _, I1, rfl, ⟨_, rfl, I.hok.fresh (Nat.le_refl _), rfl⟩, z', fun c hcm => ?_⟩⟩
    have hlt : c < s.heap.objs.size := by
      obtain ⟨_, _, _, hz⟩ := st.z
      exact fps_lt hcm (Heap.lt_size hz)
    rw [upd_ne (Nat.ne_of_lt hlt)]
    exact (hf c hcm).1
  done := by
    intro X hP hw hK hc i pins s σ H E I hf st hg
    subst hP hw hK
    have hg' := hg
    obtain ⟨hi, hq⟩ := hg'
    obtain ⟨its, hits⟩ := rows_at I hl hq
    have hx : (its 0).toArray[i]? = none := by
      have e := (hits 0 h0).1.length
      rw [List.getD_eq_getElem?_getD, List.getElem?_eq_getElem h0] at e
      have e2 := hm 0 _ (List.getElem?_eq_getElem h0)
      rw [List.getElem?_toArray]
      refine List.getElem?_eq_none ?_
      have e3 : (rows[0] : List V).length = (its 0).length := e
      omega
    exact pyNext_end (I.ok.hd hc) h0 st (fun j hj => (hits j hj).2) hB hx fun h' hk => ⟨rfl, I.turnedL (t' := s.toks) (ch := fps B rows.length) (fun c o hb q => hk c o (fps_out hb) q) hf⟩
  self := fun A i s Q E st h => self_zip st h
/-- zip(*e), e a tuple or a list of tuples of one length -/
def iZipS (K : PySem.W.Frag) (te : TE) : TI := fun σ H R => te σ H fun x H1 => ∃ (p : Addr) (as : List (Bool × Addr)) (rows : List (List V)) (m : Nat), x = V.ref p ∧ (SqT K H1 p ((as.map fun a => V.ref a.2)) ∨ SqL K H1 p ((as.map fun a => V.ref a.2))) ∧ as.length = rows.length ∧ 0 < rows.length ∧ rows.length ≤ 100000 ∧ (∀ (j : Nat) (xs : List V), rows[j]? = some xs → xs.length = m) ∧
  (∀ (j : Nat) (a : Bool × Addr) (xs : List V), as[j]? = some a → rows[j]? = some xs → SqB K H1 a xs) ∧ R (ItN K as rows m) H1
theorem refs_vals : ∀ {as : List (Bool × Addr)} {us : List Value}, Vals ((as.map fun a => V.ref a.2)) us → us = (as.map fun a => Value.ref a.2)
  | [], _, .nil => rfl
  | a :: as, _, .cons r t => by
    obtain rfl : _ = Value.ref a.2 := r
    rw [refs_vals t] <;> rfl
theorem addrs_eq {as : List (Bool × Addr)} : (as.map fun a => Value.ref a.2) = addrs (fun j => as.getD j (false, 0)) as.length := by
  unfold addrs
  apply List.ext_getElem?
  intro i
  rw [List.getElem?_map, List.getElem?_map]
  by_cases hi : i < as.length
  · rw [List.getElem?_eq_getElem hi, List.getElem?_range hi]
    show some (Value.ref as[i].2) = some (Value.ref (as.getD i (false, 0)).2)
    rw [List.getD_eq_getElem?_getD, List.getElem?_eq_getElem hi] <;> rfl
  · rw [List.getElem?_eq_none (by omega), List.getElem?_eq_none (by simp; omega)] <;> rfl
theorem pi_zipS {X : Cx} {e : Expr} {te : TE} {p sp pos tpos : Pos} {x : Str} (hg : Gl X "zip") (hm : X.mg "zip" = none) (he : PE X e te) (hs : starEach [.Starred e sp] X.env = [(true, eval e X.env)] := by rfl) :
    PI X (.Name x tpos) (.Call (.Name "zip" p) [.Starred e sp] [] pos) (iZipS X.K te) := by
  refine ⟨fun pins s σ H R I h => ?_⟩
  refine Call_ (ld_blt I hg hm PyProof.Rows.boot_zip ?_)
  rw [hs]
  refine PySem.W.ks_call (P := fun _ => True) rfl (fun h _ => ⟨.machine, .inr (.inl rfl), PySem.W.Looks.of_pure rfl⟩) (PySem.W.ks_lone (thn (he.run pins s σ H _ I h) fun v s1 ⟨y, H1, I1, ry, a, as, rows, m, ey, hq, hl, h0, h1, h2, h3, q⟩ => ?_))
  subst ey
  obtain rfl : v = Value.ref a := ry
  refine StX.star_any I1 hq fun us s2 I2 rv => ⟨trivial, ?_⟩
  rw [refs_vals rv, addrs_eq, hl]
  obtain ⟨its, hits⟩ := rows_at I2 hl h3
  have hB : ∀ j, j < rows.length → (as.getD j (false, 0)).2 < s2.heap.objs.size := fun j hj => by
    obtain ⟨o, ho⟩ := (hits j hj).2.there
    exact Heap.lt_size ho
  refine call_zipN h0 h1 (fun j hj => (hits j hj).2) fun h' z k => self_zip (s := { s2 with heap := h' }) z ?_
  refine ⟨s2.heap.objs.size + rows.length + 2, fps s2.heap.objs.size rows.length, _, _, H1, rfl, I2.kept (t' := s2.toks) k, turn_zipN hl h0 h1 h2 hB, z, fun b hb => ?_, q⟩
  have hle := (mem_fps.mp hb).1
  exact I2.fpOk hle (I2.hok.fresh hle)
end ZN
namespace DL
open PySem PySem.Spec PyProof.Rows L2 ZN
section
variable {X : Cx} {b : Bg} {e : Expr} {pos : Pos} {K : PySem.W.Frag} {Fx : Hp}
/-- the columns of rows of m items -/
def colsD (rs : List (List Dt)) (m : Nat) : List Dt := (List.range m).map fun i => .tup (rs.map fun r => r.getD i .non)
theorem colsD_len (rs : List (List Dt)) (m : Nat) : (colsD rs m).length = m := by unfold colsD; simp
theorem colsD_at {rs : List (List Dt)} {m i : Nat} {d : Dt} (h : (colsD rs m)[i]? = some d) : i < m ∧ d = .tup (rs.map fun r => r.getD i .non) := by
  have hi : i < m := by have := (List.getElem?_eq_some_iff.mp h).1; rw [colsD_len] at this; exact this
  unfold colsD at h
  rw [List.getElem?_map, List.getElem?_range hi] at h
  exact ⟨hi, (Option.some.inj h).symm⟩
@[reducible] def iZS (Te : DT) : DAt := fun γ P => Te γ fun x => ∃ (rs : List (List Dt)) (m : Nat), (x = .tup (rs.map Dt.tup) ∨ x = .lst (rs.map Dt.tup)) ∧ 0 < rs.length ∧ rs.length ≤ 100000 ∧ (∀ r, r ∈ rs → r.length = m) ∧ P (colsD rs m)
theorem rep_tups : ∀ {rs : List (List Dt)} {vs : List V}, RepL b Fx vs (rs.map Dt.tup) → ∃ (as : List (Bool × Addr)) (rows : List (List V)), vs = (as.map fun a => V.ref a.2) ∧ as.length = rs.length ∧ rows.length = rs.length ∧ ∀ (j : Nat) (r : List Dt), rs[j]? = some r → ∃ a xs, as[j]? = some (true, a) ∧ rows[j]? = some xs ∧ Fx a = some (.tup xs) ∧ RepL b Fx xs r
  | [], _, h => by
    cases h
    exact ⟨[], [], rfl, rfl, rfl, fun j r e => by simp at e⟩
  | r :: rs, _, h => by
    cases h with
    | cons ra rb =>
      cases ra with
      | tup e q =>
        rename_i a0 xs0
        obtain ⟨as, rows, rfl, h1, h2, h3⟩ := rep_tups rb
        refine ⟨(true, a0) :: as, xs0 :: rows, rfl, by simp [h1], by simp [h2], fun j r' e' => ?_⟩
        cases j with
        | zero =>
          have e2 : r = r' := by simpa using e'
          subst e2
          exact ⟨_, _, rfl, rfl, e, q⟩
        | succ j => exact h3 j r' (by simpa using e')
theorem repl_map {rows : List (List V)} {rs : List (List Dt)} {i m : Nat} (hl : rows.length = rs.length) (hm : ∀ r, r ∈ rs → r.length = m) (hi : i < m) (h : ∀ (j : Nat) (xs : List V) (r : List Dt), rows[j]? = some xs → rs[j]? = some r → RepL b Fx xs r) :
    RepL b Fx (rows.map fun xs => xs.getD i .non) (rs.map fun r => r.getD i .non) := by
  induction rows generalizing rs with
  | nil =>
    cases rs with
    | nil => exact .nil
    | cons _ _ => simp at hl
  | cons xs rows ih =>
    cases rs with
    | nil => simp at hl
    | cons r rs =>
      have q := h 0 xs r rfl rfl
      have hr : r.length = m := hm r List.mem_cons_self
      obtain ⟨v, hv, rv⟩ := q.get' (List.getElem?_eq_getElem (show i < r.length by omega))
      refine .cons ?_ (ih (by simpa using hl) (fun r' hr' => hm r' (List.mem_cons_of_mem _ hr')) fun j xs' r' e1 e2 => h (j + 1) xs' r' (by simpa using e1) (by simpa using e2))
      show Rep b Fx (xs.getD i .non) (r.getD i .non)
      rw [List.getD_eq_getElem?_getD, hv, List.getD_eq_getElem?_getD, List.getElem?_eq_getElem (show i < r.length by omega)]
      exact rv
theorem walkd_zipN {as : List (Bool × Addr)} {rows : List (List V)} {rs : List (List Dt)} {m : Nat} (hl1 : as.length = rs.length) (hl2 : rows.length = rs.length) (hm : ∀ r, r ∈ rs → r.length = m) (h : ∀ (j : Nat) (r : List Dt), rs[j]? = some r → ∃ a xs, as[j]? = some (true, a) ∧ rows[j]? = some xs ∧ Fx a = some (.tup xs) ∧ RepL b Fx xs r) :
    WalkD b (ZN.ItN K as rows m) Fx (colsD rs m) := by
  have g : ∀ H, Sub Fx H → ∀ j a xs, as[j]? = some a → rows[j]? = some xs → SqB K H a xs := fun H s j a xs e1 e2 => by
    have hj : j < rs.length := by rw [← hl1]; exact (List.getElem?_eq_some_iff.mp e1).1
    obtain ⟨a', xs', f1, f2, f3, _⟩ := h j _ (List.getElem?_eq_getElem hj)
    rw [e1] at f1; rw [e2] at f2
    cases f1; cases f2
    exact SqB.T (SqT.of (s _ _ f3))
  refine ⟨fun i H v H' => ∃ T, v = .ref T ∧ H T = none ∧ H' = upd H T (.tup (rows.map fun xs => xs.getD i .non)), ⟨fun i H hi s => ⟨by rw [colsD_len] at hi; exact hi, g H s⟩, fun H s => ⟨by rw [colsD_len]; exact Nat.le_refl _, g H s⟩, fun i H x H' _ _ y => y⟩, fun i H x H' hi y => ?_⟩
  rw [colsD_len] at hi
  obtain ⟨T, e1, e2, e3⟩ := y
  refine ⟨.tup (rs.map fun r => r.getD i .non), ?_, .inr ⟨T, _, _, e1, e2, e3, repl_map hl2 hm hi fun j xs r q1 q2 => ?_, rfl⟩⟩
  · unfold colsD
    rw [List.getElem?_map, List.getElem?_range hi] <;> rfl
  · obtain ⟨a', xs', f1, f2, f3, f4⟩ := h j r q2
    rw [q1] at f2
    cases f2
    exact f4
theorem i_zipS {x : Str} {tpos p sp : Pos} (hg : Gl X "zip") (hm : X.mg "zip" = none) (he : XE X b e Te) (hs : starEach [.Starred e sp] X.env = [(true, eval e X.env)] := by rfl) :
    XI X b (.Name x tpos) (.Call (.Name "zip" p) [.Starred e sp] [] pos) (iZS Te) := by
  obtain ⟨_, h1, h2⟩ := he
  refine ⟨_, ZN.pi_zipS hg hm h1 hs, fun P n t R q => h2 _ n t _ fun v d F1 H1 x1 r1 t1 => ?_⟩
  obtain ⟨rs, m, ed, l0, l1, lm, t1⟩ := t1
  rcases ed with rfl | rfl
  · cases r1 with
    | tup h r =>
      obtain ⟨as, rows, rfl, k1, k2, k3⟩ := rep_tups r
      refine ⟨_, as, rows, m, rfl, .inl (SqT.of (x1.sub _ _ h)), by omega, by omega, by omega, fun j xs e => ?_, fun j a xs e1 e2 => ?_, q _ _ F1 H1 x1 (walkd_zipN k1 k2 lm k3) t1⟩
      · have hj : j < rs.length := by rw [← k2]; exact (List.getElem?_eq_some_iff.mp e).1
        obtain ⟨a', xs', f1, f2, f3, f4⟩ := k3 j _ (List.getElem?_eq_getElem hj)
        rw [e] at f2; cases f2
        rw [f4.length]
        exact lm _ (List.getElem_mem hj)
      · have hj : j < rs.length := by rw [← k2]; exact (List.getElem?_eq_some_iff.mp e2).1
        obtain ⟨a', xs', f1, f2, f3, f4⟩ := k3 j _ (List.getElem?_eq_getElem hj)
        rw [e1] at f1; rw [e2] at f2; cases f1; cases f2
        exact SqB.T (SqT.of (x1.sub _ _ f3))
  · cases r1 with
    | lst h r =>
      obtain ⟨as, rows, rfl, k1, k2, k3⟩ := rep_tups r
      refine ⟨_, as, rows, m, rfl, .inr (SqL.of (x1.sub _ _ h)), by omega, by omega, by omega, fun j xs e => ?_, fun j a xs e1 e2 => ?_, q _ _ F1 H1 x1 (walkd_zipN k1 k2 lm k3) t1⟩
      · have hj : j < rs.length := by rw [← k2]; exact (List.getElem?_eq_some_iff.mp e).1
        obtain ⟨a', xs', f1, f2, f3, f4⟩ := k3 j _ (List.getElem?_eq_getElem hj)
        rw [e] at f2; cases f2
        rw [f4.length]
        exact lm _ (List.getElem_mem hj)
      · have hj : j < rs.length := by rw [← k2]; exact (List.getElem?_eq_some_iff.mp e2).1
        obtain ⟨a', xs', f1, f2, f3, f4⟩ := k3 j _ (List.getElem?_eq_getElem hj)
        rw [e1] at f1; rw [e2] at f2; cases f1; cases f2
        exact SqB.T (SqT.of (x1.sub _ _ f3))
end
end DL

namespace DL
open PySem PySem.Spec PyProof.Rows L2
section
variable {X : Cx} {b : Bg} {e e1 e2 e3 o tg : Expr} {es : List Expr} {pos : Pos} {K : PySem.W.Frag} {Fx : Hp}
/-! ### instances: fields, methods -/
/-- e.f -/
@[reducible] def dFld (C : Addr) (f : Str) (Ta : DT) : DT := fun γ P => Ta γ fun d => match d with | .ins C' fs => C' = C ∧ ∃ z, fs.lookup f = some z ∧ P z | _ => False
theorem x_fld {C : Addr} {f : Str} (c : Cls X.K C) (nf : NoAttr X.K C f) (ha : XE X b e Ta) (hb : attributeBase e f X.env (eval e X.env) = eval e X.env := by rfl) : XE X b (.Attribute e f pos) (dFld C f Ta) := by
  obtain ⟨_, h1, h2⟩ := ha
  refine ⟨_, pe_fld h1 hb, fun P n t Q q => h2 _ n t _ fun v d F1 H1 x1 r1 t1 => ?_⟩
  cases r1 <;> first | exact t1.elim | skip
  rename_i hh r
  obtain ⟨ec, z, hz, t2⟩ := t1
  subst ec
  obtain ⟨w, hw, rw_⟩ := r.look hz
  exact ⟨_, _, _, _, w, rfl, x1.sub _ _ hh, c, nf, hw, q _ _ F1 H1 x1 rw_ t2⟩
/-- o.m(e, ..) -/
@[reducible] def dMeth (C : Addr) (mn : Str) (m : Nat) (T : DSp) (To : DT) (Ta : DAt) : DT := fun γ P => To γ fun d => match d with | .ins C' fs => C' = C ∧ fs.lookup mn = none ∧ Ta γ (fun ds => ds.length + 1 = m ∧ T (.ins C' fs :: ds) P) | _ => False
theorem x_meth {k : Nat} {f C : Addr} {fd : FuncData} {ps : List Str} {mn : Str} {p : Pos} {m : Nat} {T : DSp} {To : DT} {Ta : DAt} {pl : Sem Bool} (c : Cls X.K C) (hm : Meth X.K C mn f) (F : FnOk X.prog X.w X.K X.mg X.base CX0 k f fd ps (spD b m T)) (hr : Room k X.A) (hb : Binds X.K fd ps []) (ho : XE X b o To) (ha : XA X b (e :: es) Ta)
    (hst : starEach (e :: es) X.env = (false, eval e X.env) :: starEach es X.env := by rfl) (hpl : (backTo pos (starEach es X.env)).any (·.1) = false := by rfl)
    (ht : eval (.Call (.Attribute o mn p) (e :: es) [] pos) X.env = (do
      let ov ← eval o X.env
      standAt p.atName
      let (f, first) ← holding [ov] (getMethod ov mn pl)
      callWith pos f first (backTo pos (starEach (e :: es) X.env)) (backToKw pos (keywordEach [] X.env))) := by rfl) :
    XE X b (.Call (.Attribute o mn p) (e :: es) [] pos) (dMeth C mn m T To Ta) := by
  obtain ⟨_, h1, h2⟩ := ho; obtain ⟨_, g1, g2⟩ := ha
  refine ⟨_, pe_meth (pl := pl) h1 c hm F hr hb .nil pass0 g1 hst hpl ht, fun P n t Q q => h2 _ n t _ fun v d F1 H1 x1 r1 t1 => ?_⟩
  cases r1 <;> first | exact t1.elim | skip
  rename_i hh r
  obtain ⟨ec, hz, t2⟩ := t1
  subst ec
  refine ⟨_, _, _, rfl, x1.sub _ _ hh, r.no hz, g2 _ (n.to x1) t2 _ fun vs ds F2 H2 x2 r2 t3 => ?_⟩
  show spD b m T (_ :: (vs ++ [])) H2 Q _
  rw [List.append_nil]
  exact ⟨F2, _ :: ds, P, x2.ok, .cons (x2.mono (.ins hh r)) r2, t3.1, t3.2, fun v d F' H' x r p1 => q v d F' H' ((x1.trans x2).trans x) r p1⟩
theorem x_meth0 {k : Nat} {f C : Addr} {fd : FuncData} {ps : List Str} {mn : Str} {p : Pos} {m : Nat} {T : DSp} {To : DT} {pl : Sem Bool} (c : Cls X.K C) (hm : Meth X.K C mn f) (F : FnOk X.prog X.w X.K X.mg X.base CX0 k f fd ps (spD b m T)) (hr : Room k X.A) (hb : Binds X.K fd ps []) (ho : XE X b o To)
    (ht : eval (.Call (.Attribute o mn p) [] [] pos) X.env = (do
      let ov ← eval o X.env
      standAt p.atName
      let (f, first) ← holding [ov] (getMethod ov mn pl)
      callWith pos f first (backTo pos (starEach [] X.env)) (backToKw pos (keywordEach [] X.env))) := by rfl) :
    XE X b (.Call (.Attribute o mn p) [] [] pos) (dMeth C mn m T To aNil) := by
  obtain ⟨_, h1, h2⟩ := ho
  refine ⟨_, pe_meth0 (pl := pl) h1 c hm F hr hb .nil pass0 ht, fun P n t Q q => h2 _ n t _ fun v d F1 H1 x1 r1 t1 => ?_⟩
  cases r1 <;> first | exact t1.elim | skip
  rename_i hh r
  obtain ⟨ec, hz, t2⟩ := t1
  subst ec
  refine ⟨_, _, _, rfl, x1.sub _ _ hh, r.no hz, ?_⟩
  exact ⟨F1, [_], P, x1.ok, .cons (.ins hh r) .nil, t2.1, t2.2, fun v d F' H' x r p1 => q v d F' H' (x1.trans x) r p1⟩
/-! ### a dict's value by a text key -/
theorem valV_keys {k : Str} : ∀ {vs : List (Str × V)}, valV (keysOf vs) (Sum.inr k) = vs.lookup k
  | [] => rfl
  | (n, v) :: vs => by
    show valV ((Sum.inr n, v) :: keysOf vs) (Sum.inr k) = _
    rw [List.lookup_cons]
    by_cases h : k = n
    · subst h
      rw [valV_pos rfl, beq_self_eq_true]
    · rw [valV_neg (fun e => h (Sum.inr.inj e).symm), valV_keys, show (k == n) = false from by simpa using h]
@[reducible] def dDget (Ta Tkk : DT) : DT := fun γ P => Ta γ fun d => Tkk γ fun k => match d, k with | .dK kvs, .str x => ∃ z, kvs.lookup x = some z ∧ P z | _, _ => False
theorem x_dget (hu : X.A.units + 64 < cLine) (ha : XE X b e1 Ta) (hk : XE X b e2 Tkk) (hs : NoSl e2 := by intro _ _; rfl) : XE X b (.Subscript e1 e2 pos) (dDget Ta Tkk) := by
  obtain ⟨_, h1, h2⟩ := ha; obtain ⟨_, g1, g2⟩ := hk
  refine ⟨_, pe_dget (by omega) h1 g1 hs, fun P n t Q q => h2 _ n t _ fun v d F1 H1 x1 r1 t1 => g2 _ (n.to x1) t1 _ fun w k F2 H2 x2 r2 t2 => ?_⟩
  cases r1 <;> cases r2 <;> first | exact t2.elim | skip
  rename_i hh r x
  obtain ⟨z, hz, t3⟩ := t2
  obtain ⟨u, hu', ru⟩ := r.look hz
  refine ⟨_, u, rfl, ?_, q _ _ F2 H2 (x1.trans x2) (x2.mono ru) t3⟩
  have := DGet.k (k := Sum.inr x) (x2.sub _ _ (x2.grow _ _ hh))
  rw [valV_keys, hu'] at this
  exact this
/-! ### an instance of one's own: its fields stored -/
def putD (f : Str) (d : Dt) : List (Str × Dt) → List (Str × Dt)
  | [] => [(f, d)]
  | (g, x) :: r => if g = f then (g, d) :: r else (g, x) :: putD f d r
theorem RepF.put {F : Hp} {f : Str} {v : V} {d : Dt} (r : Rep b F v d) : ∀ {fs : List (Str × Dt)} {vs : List (Str × V)}, RepF b F vs fs → RepF b F (putF f v vs) (putD f d fs)
  | [], _, h => by cases h; exact .cons r .nil
  | (g, x) :: fs, _, h => by
    cases h with
    | cons q t =>
      by_cases e : g = f
      · unfold putF putD
        rw [if_pos e, if_pos e]
        exact .cons r t
      · unfold putF putD
        rw [if_neg e, if_neg e]
        exact .cons q (RepF.put r t)
theorem RepF.length {F : Hp} : ∀ {fs : List (Str × Dt)} {vs : List (Str × V)}, RepF b F vs fs → vs.length = fs.length
  | [], _, h => by cases h; rfl
  | (g, x) :: fs, _, h => by
    cases h with
    | cons q t => exact congrArg (· + 1) (RepF.length t)
/-- self.f = e -/
@[reducible] def sFldD (i : Nat) (C : Addr) (f : Str) (Ta : DT) : DSt := fun E γ => match gat γ i with
  | .obj l d => (match d with | .ins C' fs => C' = C ∧ fs.length < 1000 ∧ Ta γ (fun z => E.nx (gset γ i (.obj l (.ins C' (putD f z fs))))) | _ => False)
  | _ => False
theorem s_fld (i : Nat) {C : Addr} {f x : Str} {p1 p2 : Pos} (c : Cls X.K C) (nf : NoAttr X.K C f) (ha : XE X b e Ta) (hN : X.N[i]? = some x := by rfl) (hv : Vis X.env.scope x := by first | exact Or.inl rfl | exact Or.inr (Or.inl rfl) | exact Or.inr (Or.inr rfl)) (hd : (x == ("__debug__" : Str)) = false := by decide)
    (hcd : (x == ("__classdict__" : Str)) = false := by decide) (hs : swapsWith e (some (.Attribute (.Name x p1) f p2)) pos.line X.env = pure false := by rfl) : XS X b (.Assign [.Attribute (.Name x p1) f p2] e pos) (sFldD i C f Ta) := by
  obtain ⟨_, h1, h2⟩ := ha
  refine ⟨_, ps_fld (pe_var hN hv hd hcd) h1 hs, fun {Fm F0 H0 F H σ γ} E n t D k => ?_⟩
  unfold sFldD at t
  have hi := n.slot i
  cases e : gat γ i with
  | un => rw [e] at t; exact t.elim
  | val d => rw [e] at t; exact t.elim
  | own l d => rw [e] at t; exact t.elim
  | hid l d => rw [e] at t; exact t.elim
  | obj l d =>
    rw [e] at hi t
    cases d <;> first | exact t.elim | skip
    rename_i C' fs
    obtain ⟨ec, hl, t⟩ := t
    subst ec
    obtain ⟨u, a1, a2, a3, a4, a5, a6⟩ := hi
    cases a3 with
    | ins r =>
      refine h2 _ n t _ fun v z F1 H1 x1 r1 t1 => ⟨_, a1, l, _, _, _, rfl, x1.keep _ _ a6 a2 .ins, c, nf, by rw [r.length]; exact hl, k.nx ((n.to x1).wrO e (.ins ((RepF.mono x1.grow r).put r1))) t1⟩
/-! ### instances made -/
abbrev DIp := List Dt → (List (Str × Dt) → Prop) → Prop
/-- what an __init__ promises: from the arguments to the fields -/
def spI (b : Bg) (C : Addr) (m : Nat) (T : DIp) : Sp := fun vs H Q _ => ∃ (x dx : Addr) (ws : List V) (F H1 : Hp) (ds : List Dt) (R : List (Str × Dt) → Prop), vs = .ref x :: ws ∧ H = upd (upd H1 dx (.own x)) x (.ins C dx []) ∧ H1 x = none ∧ H1 dx = none ∧ dx ≠ x ∧
  Ok b F H1 ∧ RepL b F ws ds ∧ ds.length = m ∧ T ds R ∧ ∀ F' H' d2 us fs, Ext b F H1 F' H' → H' x = some (.ins C d2 us) → F' x = none → RepF b F' us fs → R fs → Q .non H'
@[reducible] def dMake (C : Addr) (m : Nat) (T : DIp) (Ta : DAt) : DT := fun γ P => Ta γ fun ds => ds.length = m ∧ T ds fun fs => P (.ins C fs)
theorem x_make {k : Nat} {f C : Addr} {fd : FuncData} {ps : List Str} {x : Str} {p : Pos} {m : Nat} {T : DIp} {Ta : DAt} (M : Mk X.K C f) (F : FnOk X.prog X.w X.K X.mg X.base CX0 k f fd ps (spI b C m T)) (hr : Room (k + 1) X.A) (hg : Gl X x) (hm : X.mg x = some (.ref C)) (hb : Binds X.K fd ps [])
    (ha : XA X b (e :: es) Ta) (hdb : (x == ("__debug__" : Str)) = false := by decide) (he : starEach (e :: es) X.env = (false, eval e X.env) :: starEach es X.env := by rfl) (hpl : (backTo pos (starEach es X.env)).any (·.1) = false := by rfl) : XE X b (.Call (.Name x p) (e :: es) [] pos) (dMake C m T Ta) := by
  obtain ⟨_, h1, h2⟩ := ha
  refine ⟨_, pe_make M F hr hg hm hb .nil pass0 h1 hdb he hpl, fun P n t Q q => h2 _ n t _ fun vs ds F1 H1 x1 r1 t1 => ?_⟩
  intro a dx ha hdx hne
  show spI b C m T (_ :: (vs ++ [])) _ _ _
  rw [List.append_nil]
  refine ⟨a, dx, vs, F1, H1, ds, _, rfl, rfl, ha, hdx, hne, x1.ok, r1, t1.1, t1.2, fun F' H' d2 us fs y hx hf r p1 => ⟨rfl, ?_⟩⟩
  have y2 := y.take ha (x1.ok.nb ha) hx
  exact q _ _ _ H' (x1.trans y2) (.ins upd_same (RepF.mono (fun c o z => by rw [upd_ne (ne_of_none z hf)]; exact z) r)) p1
def startI (N : List Str) (l C : Addr) (ds : List Dt) : Gm := gset (startD N (.non :: ds)) 0 (.obj l (.ins C []))
end
section
variable {P : Program} {w : World} {K : PySem.W.Frag} {mg : Str → Option Value} {base : Heap} {b : Bg}
theorem start_adr {N : List Str} {ds : List Dt} {j : Nat} : (gat (startD N ds) j).adr = none := by
  have gl : ∀ (l : List Dt) (m : Nat) (i : Nat), (gat (l.map Sl.val ++ List.replicate m .un) i).adr = none := fun l => by
    induction l with
    | nil =>
      intro m
      induction m with
      | zero => intro i; rfl
      | succ m ih =>
        intro i
        cases i with
        | zero => rfl
        | succ i => exact ih i
    | cons a r ih =>
      intro m i
      cases i with
      | zero => rfl
      | succ i => exact ih m i
  exact gl ds _ j
/-- THE RULE for an __init__ -/
theorem fn_I {x qual : Str} {st : Stmt} {f C : Addr} {fd : FuncData} {N ps : List Str} {k m : Nat} {T : DIp} (F : Fun K x qual st f fd) (S : FnScope N ps (defScope st)) (hm : ps.length = m + 1)
    (hbody : ∀ (X : Cx) (outer : List Env) (cdv : Value) (A : Around) (s : Shared) (H : Hp) (E : L2.XK), X = (cxOf CX0 P w K mg base N qual (defScope st) f cdv A outer s H E).nox → Room k X.A → ∃ T', XSs (cxOf CX0 P w K mg base N qual (defScope st) f cdv A outer s H E).nox b (defBody st) T' ∧
      ∀ (l : Addr) (ds : List Dt) (R : List (Str × Dt) → Prop), ds.length = m → T ds R → T' { nx := fun γ => ∃ fs, gat γ 0 = .obj l (.ins C fs) ∧ R fs, rt := fun γ d => d = .non ∧ ∃ fs, gat γ 0 = .obj l (.ins C fs) ∧ R fs } (startI N l C ds)) :
    FnOk P w K mg base CX0 (k + 1) f fd ps (spI b C m T) := by
  refine F.ok S (fun vs H Q E h => ?_) (fun cdv A outer s H vs Q E hr h => ?_)
  · obtain ⟨l, dx, ws, F0, H1, ds, R, rfl, _, _, _, _, _, h2, h3, _⟩ := h
    rw [List.length_cons, h2.length, h3, hm]
  · obtain ⟨l, dx, ws, F0, H1, ds, R, rfl, rfl, hx, hdx, hne, h1, h2, h3, h4, h5⟩ := h
    obtain ⟨T', ⟨t, t1, t2⟩, t3⟩ := hbody _ outer cdv A s _ E rfl hr
    have n1 : Nv b F0 F0 H1 F0 H1 (L2.start N (.non :: ws)) (startD N (.non :: ds)) := start_nv (Fm := F0) h1 (.cons .non h2)
    have x1 : Ext b F0 H1 F0 (upd H1 dx (.own l)) := Ext.laid h1 hdx
    have hx2 : (upd H1 dx (.own l)) l = none := by rw [upd_ne hne.symm]; exact hx
    have x2 : Ext b F0 (upd H1 dx (.own l)) F0 (upd (upd H1 dx (.own l)) l (.ins C dx [])) := Ext.laid x1.ok hx2
    have n2 := (n1.to x1).to x2
    have n3 : Nv b F0 F0 H1 F0 (upd (upd H1 dx (.own l)) l (.ins C dx [])) (L2.start N (.ref l :: ws)) (startI N l C ds) :=
      n2.setObj 0 (l := l) (u := .ins C dx []) (d := .ins C []) upd_same (.ins .nil) (h1.fF hx) hx (h1.nb hx) fun j a hj => by rw [start_adr] at hj; cases hj
    have fin : ∀ {F' H' : Hp} {σ : L2.St} {γ : Gm}, Nv b F0 F0 H1 F' H' σ γ → (∃ fs, gat γ 0 = .obj l (.ins C fs) ∧ R fs) → Q .non H' := fun {F' H' σ γ} n ⟨fs, g, r⟩ => by
      have hs := n.slot 0
      rw [g] at hs
      obtain ⟨u, _, a2, a3, a4, _, _⟩ := hs
      cases a3 with
      | ins rr => exact h5 _ _ _ _ fs n.ext a2 a4 rr r
    refine ⟨t, t1, t2 _ n3 (t3 l ds R h3 h4) _ ⟨?_, ?_, ?_, ?_⟩⟩
    · intro F' H' σ γ n r
      exact fin n r
    · intro F' H' σ γ v d n r p
      obtain ⟨rfl, p⟩ := p
      cases r
      exact fin n p
    · intro F' H' σ γ n r
      exact r.elim
    · intro F' H' σ γ n r
      exact r.elim
end
end DL

namespace DL
open PySem PySem.Spec PyProof.Rows L2
/-! dicts of one's own, by text keys -/
def putS {α : Type} (k : Str) (d : α) (kvs : List (Str × α)) : List (Str × α) := if (kvs.lookup k).isSome = true then kvs.map (fun p => if p.1 = k then (p.1, d) else p) else kvs ++ [(k, d)]
theorem putS_new {α : Type} {k : Str} {d : α} {kvs : List (Str × α)} (h : kvs.lookup k = none) : putS k d kvs = kvs ++ [(k, d)] := by unfold putS; rw [h] <;> rfl
section
variable {b : Bg} {F H : Hp}
theorem RepF.append : ∀ {vs ws : List (Str × V)} {xs ys : List (Str × Dt)}, RepF b F vs xs → RepF b F ws ys → RepF b F (vs ++ ws) (xs ++ ys)
  | _, _, _, _, .nil, s => s
  | _, _, _, _, .cons r t, s => .cons r (RepF.append t s)
theorem RepF.putS {k : Str} {v : V} {d : Dt} {vs : List (Str × V)} {fs : List (Str × Dt)} (r : Rep b F v d) (h : RepF b F vs fs) : RepF b F (DL.putS k v vs) (DL.putS k d fs) := by
  have hl : (vs.lookup k).isSome = (fs.lookup k).isSome := by
    cases e : fs.lookup k with
    | none => rw [h.no e] <;> rfl
    | some z =>
      obtain ⟨w, hw, _⟩ := h.look e
      rw [hw] <;> rfl
  unfold DL.putS
  rw [hl]
  split
  · clear hl
    rename_i hq
    clear hq
    have : ∀ {fs : List (Str × Dt)} {vs : List (Str × V)}, RepF b F vs fs → RepF b F (vs.map fun p => if p.1 = k then (p.1, v) else p) (fs.map fun p => if p.1 = k then (p.1, d) else p) := fun {fs} => by
      induction fs with
      | nil => intro vs h; cases h; exact .nil
      | cons q fs ih =>
        intro vs h
        cases h with
        | @cons n w vs2 d2 ds2 q t =>
          by_cases e : n = k
          · rw [List.map_cons, List.map_cons, if_pos (show (n, w).1 = k from e), if_pos (show (n, d2).1 = k from e)]
            exact .cons r (ih t)
          · rw [List.map_cons, List.map_cons, if_neg (show ¬ (n, w).1 = k from e), if_neg (show ¬ (n, d2).1 = k from e)]
            exact .cons q (ih t)
    exact this h
  · exact h.append (.cons r .nil)
theorem putK_keys {k : Str} {v : V} {vs : List (Str × V)} : putK (keysOf vs) (Sum.inr k) v = keysOf (putS k v vs) := by
  have hl : ((keysOf vs).any fun kv => decide (kv.1 = (Sum.inr k : Key))) = (vs.lookup k).isSome := by rw [valV_any, valV_keys]
  unfold putK putS
  rw [hl]
  split
  · unfold keysOf
    rw [List.map_map, List.map_map]
    apply List.map_congr_left
    intro p _
    by_cases e : p.1 = k
    · show (if (Sum.inr p.1 : Key) = Sum.inr k then _ else _) = _
      rw [if_pos (by rw [e])]
      show _ = (Sum.inr (if p.1 = k then (p.1, v) else p).1, (if p.1 = k then (p.1, v) else p).2)
      rw [if_pos e]
    · show (if (Sum.inr p.1 : Key) = Sum.inr k then _ else _) = _
      rw [if_neg (fun q => e (Sum.inr.inj q))]
      show _ = (Sum.inr (if p.1 = k then (p.1, v) else p).1, (if p.1 = k then (p.1, v) else p).2)
      rw [if_neg e]
  · unfold keysOf
    rw [List.map_append] <;> rfl
/-- a list of one's own of which a dict's entry says the place -/
theorem Nv.hide {Fm F0 H0 F H : Hp} {σ : L2.St} {γ : Gm} (n : Nv b Fm F0 H0 F H σ γ) (j : Nat) {m : Addr} {vs : List V} {xs : List Dt} (h : H m = some (.lst vs)) (r : RepL b F vs xs) (f : F m = none) (h0 : H0 m = none) (nb : b.bag ≠ some m)
    (new : ∀ k a, k ≠ j → (gat γ k).adr = some a → a ≠ m) : Nv b Fm F0 H0 F H σ (gset γ j (.hid m xs)) where
  ok0 := n.ok0
  fm := n.fm
  ext := n.ext
  len := by rw [gset_len]; exact n.len
  slot := fun i => by
    by_cases e : i = j
    · subst e
      rcases gat_set γ (i := i) (.hid m xs) with q | ⟨q, _⟩
      · rw [q]; exact ⟨vs, h, r, f, h0, nb⟩
      · rw [q]; exact True.intro
    · rw [gat_set_ne _ _ e]
      exact n.slot i
  dis := fun i k a hi hk => by
    have at_j : ∀ a, (gat (gset γ j (.hid m xs)) j).adr = some a → a = m := fun a hz => by
      rcases gat_set γ (i := j) (.hid m xs) with q | ⟨q, _⟩
      · rw [q] at hz; exact (Option.some.inj hz).symm
      · rw [q] at hz; cases hz
    by_cases ei : i = j
    · by_cases ek : k = j
      · rw [ei, ek]
      · exfalso
        subst ei
        rw [gat_set_ne _ _ ek] at hk
        exact new k a ek hk (at_j a hi)
    · by_cases ek : k = j
      · exfalso
        subst ek
        rw [gat_set_ne _ _ ei] at hi
        exact new i a ei hi (at_j a hk)
      · rw [gat_set_ne _ _ ei] at hi
        rw [gat_set_ne _ _ ek] at hk
        exact n.dis i k a hi hk
/-- the places within a dict that say a list's place come to hold the list -/
def resK (m : Addr) (xs : List Dt) : List (Str × Dt) → List (Str × Dt)
  | [] => []
  | (k, .ptr a) :: r => (k, if a = m then .lst xs else .ptr a) :: resK m xs r
  | p :: r => p :: resK m xs r
theorem RepF.res {m : Addr} {xs : List Dt} {ws : List V} (hm : F m = some (.lst ws)) (r : RepL b F ws xs) : ∀ {fs : List (Str × Dt)} {vs : List (Str × V)}, RepF b F vs fs → RepF b F vs (resK m xs fs)
  | [], _, h => by cases h; exact .nil
  | (k, d) :: fs, _, h => by
    cases h with
    | cons q t =>
      have ih := RepF.res hm r t
      cases d with
      | ptr a =>
        cases q
        show RepF b F _ ((k, if a = m then Dt.lst xs else .ptr a) :: resK m xs fs)
        by_cases e : a = m
        · subst e
          rw [if_pos rfl]
          exact .cons (.lst hm r) ih
        · rw [if_neg e]
          exact .cons (.ptr a) ih
      | _ => exact .cons q ih
theorem Nv.resolve {Fm F0 H0 F H : Hp} {σ : L2.St} {γ : Gm} (n : Nv b Fm F0 H0 F H σ γ) {i j : Nat} {l m : Addr} {kvs : List (Str × Dt)} {xs : List Dt} (ei : gat γ i = .obj l (.dK kvs)) (ej : gat γ j = .hid m xs) :
    ∃ F', Nv b Fm F0 H0 F' H σ (gset (gset γ i (.obj l (.dK (resK m xs kvs)))) j .un) := by
  have hj := n.slot j
  rw [ej] at hj
  obtain ⟨ws, h2, h3, h4, h5, h6⟩ := hj
  have hi := n.slot i
  rw [ei] at hi
  obtain ⟨u, g1, g2, g3, g4, g5, g6⟩ := hi
  have hij : i ≠ j := fun e => by rw [e, ej] at ei; cases ei
  have g : Sub F (upd F m (.lst ws)) := fun a o q => by rw [upd_ne (ne_of_none q h4)]; exact q
  have hne : ∀ k a, k ≠ j → (gat γ k).adr = some a → a ≠ m := fun k a hk ha e => hk (n.dis k j a ha (by rw [ej, e]; rfl))
  refine ⟨upd F m (.lst ws), n.ok0, n.fm.trans g, n.ext.take h5 h6 h2, by rw [gset_len, gset_len]; exact n.len, fun k => ?_, fun k k' a hk hk' => ?_⟩
  · by_cases ek : k = j
    · subst ek
      rcases gat_set (gset γ i (.obj l (.dK (resK m xs kvs)))) (i := k) .un with q | ⟨q, _⟩ <;> (rw [q]; exact True.intro)
    · rw [gat_set_ne _ _ ek]
      by_cases ek2 : k = i
      · subst ek2
        rcases gat_set γ (i := k) (.obj l (.dK (resK m xs kvs))) with q | ⟨q, _⟩
        · rw [q]
          have hlm : l ≠ m := hne k l hij (by rw [ei]; rfl)
          refine ⟨u, g1, g2, ?_, by rw [upd_ne hlm]; exact g4, g5, g6⟩
          cases g3 with
          | dK r => exact .dK (RepF.res upd_same (h3.mono g) (RepF.mono g r))
        · rw [q]; exact True.intro
      · rw [gat_set_ne _ _ ek2]
        exact (n.slot k).grow g fun a ha hn => by rw [upd_ne (hne k a ek ha)]; exact hn
  · have back : ∀ k a, (gat (gset (gset γ i (.obj l (.dK (resK m xs kvs)))) j .un) k).adr = some a → (gat γ k).adr = some a := fun k a hk => by
      by_cases ek : k = j
      · subst ek
        rcases gat_set (gset γ i (.obj l (.dK (resK m xs kvs)))) (i := k) .un with q | ⟨q, _⟩ <;> (rw [q] at hk; cases hk)
      · rw [gat_set_ne _ _ ek] at hk
        by_cases ek2 : k = i
        · subst ek2
          rcases gat_set γ (i := k) (.obj l (.dK (resK m xs kvs))) with q | ⟨q, _⟩
          · rw [q] at hk; rw [ei]; exact hk
          · rw [q] at hk; cases hk
        · rw [gat_set_ne _ _ ek2] at hk; exact hk
    exact n.dis k k' a (back k a hk) (back k' a hk')
end
section
variable {X : Cx} {b : Bg} {e e1 e2 e3 e4 o tg : Expr} {es : List Expr} {pos : Pos} {K : PySem.W.Frag} {Fx : Hp}
/-- x = {k1: e1, k2: e2} -/
@[reducible] def sDisp2 (i : Nat) (T1 T2 T3 T4 : DT) : DSt := fun E γ => T1 γ fun a => T2 γ fun x => T3 γ fun c => T4 γ fun y => match a, c with
  | .str k1, .str k2 => k1 ≠ k2 ∧ ∀ l, E.nx (gset γ i (.obj l (.dK [(k1, x), (k2, y)])))
  | _, _ => False
theorem s_disp2 {i : Nat} {x : Str} {p2 p3 : Pos} (hN : X.N.Nodup) (hi : X.N[i]? = some x) (hx : Loc X.env.scope x) (h1 : XE X b e1 T1) (h2 : XE X b e2 T2) (h3 : XE X b e3 T3) (h4 : XE X b e4 T4)
    (hs : swapsWith (.Dict [some e1, some e3] [e2, e4] p3) (some (.Name x p2)) pos.line X.env = pure false := by rfl) (hf : X.fn x = true ∨ X.env.scope.names.lookup x = some .local := by first | exact .inl rfl | exact .inr rfl | assumption) :
    XS X b (.Assign [.Name x p2] (.Dict [some e1, some e3] [e2, e4] p3) pos) (sDisp2 i T1 T2 T3 T4) := by
  obtain ⟨_, a1, b1⟩ := h1; obtain ⟨_, a2, b2⟩ := h2; obtain ⟨_, a3, b3⟩ := h3; obtain ⟨_, a4, b4⟩ := h4
  refine ⟨_, ps_set hN hi hx (pe_disp (pps_cons a1 a2 (pps_cons a3 a4 pps_nil)) rfl rfl (by simp) (show 2 ≤ 15 by decide)) hs hf, fun {Fm F0 H0 F H σ γ} E n t D k => ?_⟩
  intro p hp
  have x0 : Ext b F H F (upd H p (.dK [])) := Ext.laid n.ok hp
  refine b1 _ (n.to x0) t _ fun v1 d1 F1 H1 x1 r1 t1 => b2 _ ((n.to x0).to x1) t1 _ fun v2 d2 F2 H2 x2 r2 t2 => b3 _ (((n.to x0).to x1).to x2) t2 _ fun v3 d3 F3 H3 x3 r3 t3 => b4 _ ((((n.to x0).to x1).to x2).to x3) t3 _ fun v4 d4 F4 H4 x4 r4 t4 => ?_
  have nb : b.bag ≠ some p := n.ok.nb hp
  have y := ((x1.trans x2).trans x3).trans x4
  have hp4 : H4 p = some (.dK []) := y.keep _ _ nb upd_same .dK
  have fp4 : F4 p = none := by rw [y.new _ _ upd_same .dK]; exact n.ok.fF hp
  cases r1 <;> cases r3 <;> first | exact t4.elim | skip
  rename_i k1 k2
  obtain ⟨hk, t5⟩ := t4
  refine ⟨hp4, [(Sum.inr k1, v2), (Sum.inr k2, v4)], rfl, (show 2 ≤ 15 by decide), ?_⟩
  have em : mergeK [] [((Sum.inr k1 : Key), v2), (Sum.inr k2, v4)] = keysOf [(k1, v2), (k2, v4)] := by
    show putK (putK [] (Sum.inr k1) v2) (Sum.inr k2) v4 = _
    rw [putK_new v2 rfl, putK_new v4 (by
      show valV [((Sum.inr k1 : Key), v2)] (Sum.inr k2) = none
      rw [valV_neg (fun q => hk (Sum.inr.inj q))] <;> rfl)] <;> rfl
  rw [em]
  have z : Ext b F H F4 (upd H4 p (.dK (keysOf [(k1, v2), (k2, v4)]))) := (x0.trans y).wr hp fp4 nb hp4 .dK (fun _ z => by cases z)
  exact k.nx ((n.to z).setObj i (l := p) upd_same (.dK (.cons (r2.mono (x3.grow.trans x4.grow)) (.cons r4 .nil))) fp4 (n.ext.back n.ok0 hp) nb fun j a hj hq => by
    obtain ⟨u, hu⟩ := n.there hj
    rw [hq, hp] at hu
    cases hu) (t5 p)
/-- d[k] = e, d a dict of one's own -/
@[reducible] def sDputV (i : Nat) (Tv : DT) (kx : Str) : DSt := fun E γ => match gat γ i with
  | .obj l o => (match o with | .dK kvs => kvs.length < 1000 ∧ Tv γ (fun d => E.nx (gset γ i (.obj l (.dK (putS kx d kvs))))) | _ => False)
  | _ => False
theorem putS_len {α : Type} (k : Str) (d : α) (kvs : List (Str × α)) : (putS k d kvs).length ≤ kvs.length + 1 := by
  unfold putS
  split
  · rw [List.length_map]; omega
  · rw [List.length_append] <;> exact Nat.le_refl _
theorem s_dputV (i : Nat) {x kx : Str} {jk : Nat} {p1 p2 p3 : Pos} (hu : X.A.units + 64 < cLine) (hv : XE X b e Tv) (hN : X.N[i]? = some x := by rfl) (hvi : Vis X.env.scope x := by first | exact Or.inl rfl | exact Or.inr (Or.inl rfl) | exact Or.inr (Or.inr rfl)) (hd : (x == ("__debug__" : Str)) = false := by decide)
    (hcd : (x == ("__classdict__" : Str)) = false := by decide) (hs : swapsWith e (some (.Subscript (.Name x p1) (.Constant (.str kx) jk p3) p2)) pos.line X.env = pure false := by rfl) : XS X b (.Assign [.Subscript (.Name x p1) (.Constant (.str kx) jk p3) p2] e pos) (sDputV i Tv kx) := by
  obtain ⟨_, h1, h2⟩ := hv
  refine ⟨_, ps_dput (by omega) (pe_var hN hvi hd hcd) pe_str h1 hs, fun {Fm F0 H0 F H σ γ} E n t D k => ?_⟩
  unfold sDputV at t
  have hi := n.slot i
  cases e : gat γ i with
  | un => rw [e] at t; exact t.elim
  | val d => rw [e] at t; exact t.elim
  | own l d => rw [e] at t; exact t.elim
  | hid l d => rw [e] at t; exact t.elim
  | obj l d =>
    rw [e] at hi t
    cases d <;> first | exact t.elim | skip
    rename_i kvs
    obtain ⟨hl, t⟩ := t
    obtain ⟨u, a1, a2, a3, a4, a5, a6⟩ := hi
    cases a3 with
    | @dK vs _ r =>
      refine h2 _ n t _ fun v z F1 H1 x1 r1 t1 => ⟨_, a1, ?_⟩
      have hz : (keysOf vs).length < sizeLine := by
        unfold keysOf
        rw [List.length_map, r.length]
        exact Nat.lt_trans hl (by decide)
      refine ⟨l, _, rfl, DPut.k (k := Sum.inr kx) (x1.keep _ _ a6 a2 .dK) hz, ?_⟩
      rw [putK_keys]
      exact k.nx ((n.to x1).wrO e (.dK ((RepF.mono x1.grow r).putS r1))) t1
/-- d[k] = a new list that stays one's own: slot j keeps it -/
@[reducible] def sDputL (i j : Nat) (Tl : DAt) (kx : Str) : DSt := fun E γ => match gat γ i with
  | .obj l o => (match o with | .dK kvs => kvs.length < 1000 ∧ kvs.lookup kx = none ∧ Tl γ (fun xs => ∀ m, E.nx (gset (gset γ i (.obj l (.dK (kvs ++ [(kx, .ptr m)])))) j (.hid m xs))) | _ => False)
  | _ => False
theorem s_dputL (i j : Nat) {x kx : Str} {jk : Nat} {p1 p2 p3 : Pos} (hu : X.A.units + 64 < cLine) (hij : j ≠ i) (hv : XL X b e Tl) (hN : X.N[i]? = some x := by rfl) (hvi : Vis X.env.scope x := by first | exact Or.inl rfl | exact Or.inr (Or.inl rfl) | exact Or.inr (Or.inr rfl)) (hd : (x == ("__debug__" : Str)) = false := by decide)
    (hcd : (x == ("__classdict__" : Str)) = false := by decide) (hs : swapsWith e (some (.Subscript (.Name x p1) (.Constant (.str kx) jk p3) p2)) pos.line X.env = pure false := by rfl) : XS X b (.Assign [.Subscript (.Name x p1) (.Constant (.str kx) jk p3) p2] e pos) (sDputL i j Tl kx) := by
  obtain ⟨_, h1, h2⟩ := hv
  refine ⟨_, ps_dput (by omega) (pe_var hN hvi hd hcd) pe_str h1 hs, fun {Fm F0 H0 F H σ γ} E n t D k => ?_⟩
  unfold sDputL at t
  have hi := n.slot i
  cases e : gat γ i with
  | un => rw [e] at t; exact t.elim
  | val d => rw [e] at t; exact t.elim
  | own l d => rw [e] at t; exact t.elim
  | hid l d => rw [e] at t; exact t.elim
  | obj l d =>
    rw [e] at hi t
    cases d <;> first | exact t.elim | skip
    rename_i kvs
    obtain ⟨hl, hk, t⟩ := t
    obtain ⟨u, a1, a2, a3, a4, a5, a6⟩ := hi
    cases a3 with
    | @dK vs _ r =>
      refine h2 _ n t _ fun p ws xs F1 H1 x1 hp hl1 hf1 r1 t1 => ⟨_, a1, ?_⟩
      have hz : (keysOf vs).length < sizeLine := by
        unfold keysOf
        rw [List.length_map, r.length]
        exact Nat.lt_trans hl (by decide)
      refine ⟨l, _, rfl, DPut.k (k := Sum.inr kx) (x1.keep _ _ a6 a2 .dK) hz, ?_⟩
      rw [putK_keys]
      have n2 := (n.to x1).wrO (u := .dK (keysOf (putS kx (.ref p) vs))) (d' := .dK (kvs ++ [(kx, .ptr p)])) e (.dK (by
        rw [← putS_new (d := Dt.ptr p) hk]
        exact (RepF.mono x1.grow r).putS (.ptr p)))
      have hlp : l ≠ p := fun z => by rw [z, hp] at a2; cases a2
      have hnew : ∀ q a, (gat γ q).adr = some a → a ≠ p := fun q a hq z => by
        obtain ⟨u, hu⟩ := n.there hq
        rw [z, hp] at hu
        cases hu
      refine k.nx (n2.hide j (m := p) (by rw [upd_ne hlp.symm]; exact hl1) r1 hf1 (n.ext.back n.ok0 hp) (n.ok.nb hp) fun q a hq ha => ?_) (t1 p)
      by_cases eq : q = i
      · subst eq
        rcases gat_set γ (i := q) (.obj l (.dK (kvs ++ [(kx, .ptr p)]))) with z | ⟨z, _⟩
        · rw [z] at ha
          cases ha
          exact hlp
        · rw [z] at ha; cases ha
      · rw [gat_set_ne _ _ eq] at ha
        exact hnew q a ha
/-- d[k].append(e): the list that slot j keeps -/
@[reducible] def sAppH (i j : Nat) (kx : Str) (Ta : DT) : DSt := fun E γ => match gat γ i, gat γ j with
  | .obj _ o, .hid m xs => (match o with | .dK kvs => kvs.lookup kx = some (.ptr m) ∧ Ta γ (fun d => xs.length < 100000 ∧ E.nx (gset γ j (.hid m (xs ++ [d])))) | _ => False)
  | _, _ => False
theorem s_appH (i j : Nat) {x kx : Str} {jk : Nat} {p1 p2 p3 apos cpos : Pos} (hu : X.A.units + 64 < cLine) (ha : XE X b e Ta) (hN : X.N[i]? = some x := by rfl) (hvi : Vis X.env.scope x := by first | exact Or.inl rfl | exact Or.inr (Or.inl rfl) | exact Or.inr (Or.inr rfl)) (hd : (x == ("__debug__" : Str)) = false := by decide)
    (hcd : (x == ("__classdict__" : Str)) = false := by decide) (he : starEach [e] X.env = (false, eval e X.env) :: starEach [] X.env := by rfl)
    (hns : NoSl (.Constant (.str kx) jk p3) := by intro _ _; rfl)
    (hpe : ∀ {te : TE} {t : TA}, PE X (.Subscript (.Name x p1) (.Constant (.str kx) jk p3) p2) te → PA X [e] t → PE X (.Call (.Attribute (.Subscript (.Name x p1) (.Constant (.str kx) jk p3) p2) "append" apos) [e] [] cpos) (tBM X.K "list" rAppend te t) := by exact fun h g => pe_bm PySem.F.plainAttrs_list PySem.F.slot_list_append PySem.F.type_list_append mt_append h g)
    (hs : swapsWith (.Call (.Attribute (.Subscript (.Name x p1) (.Constant (.str kx) jk p3) p2) "append" apos) [e] [] cpos) none pos.line X.env = pure false := by rfl) : XS X b (.Expr (.Call (.Attribute (.Subscript (.Name x p1) (.Constant (.str kx) jk p3) p2) "append" apos) [e] [] cpos) pos) (sAppH i j kx Ta) := by
  obtain ⟨_, h1, h2⟩ := ha
  refine ⟨_, ps_expr (hpe (pe_dget (by omega) (pe_var hN hvi hd hcd) pe_str hns) (pa_cons h1 pa_nil he)) hs, fun {Fm F0 H0 F H σ γ} E n t D k => ?_⟩
  unfold sAppH at t
  have hi := n.slot i
  have hj := n.slot j
  cases ei : gat γ i with
  | un => rw [ei] at t; exact t.elim
  | val d => rw [ei] at t; exact t.elim
  | own l d => rw [ei] at t; exact t.elim
  | hid l d => rw [ei] at t; exact t.elim
  | obj l d =>
    cases ej : gat γ j with
    | un => rw [ei, ej] at t; exact t.elim
    | val d => rw [ei, ej] at t; exact t.elim
    | own l d => rw [ei, ej] at t; exact t.elim
    | obj l d => rw [ei, ej] at t; exact t.elim
    | hid m xs =>
      rw [ei, ej] at t
      rw [ei] at hi
      rw [ej] at hj
      cases d <;> first | exact t.elim | skip
      rename_i kvs
      obtain ⟨hk, t⟩ := t
      obtain ⟨u, a1, a2, a3, a4, a5, a6⟩ := hi
      obtain ⟨ws, g2, g3, g4, g5, g6⟩ := hj
      cases a3 with
      | @dK vs _ r =>
        obtain ⟨w, hw, rw_⟩ := r.look hk
        cases rw_
        refine ⟨_, a1, l, .ref m, rfl, ?_, Or.inl ⟨rfl, ws, SqL.of g2⟩, h2 _ n t _ fun v d F' H' x r' p => ?_⟩
        · have := DGet.k (k := Sum.inr kx) a2
          rw [valV_keys, hw] at this
          exact this
        · refine ⟨m, ws, v, rfl, rfl, x.keep _ _ g6 g2 .lst, ?_, k.nx ((n.to x).wrG (x.keep _ _ g6 g2 .lst) .lst (fun _ z => by cases z) (i := j) (l := m) (s := .hid m (xs ++ [d])) (by rw [ej]; rfl) (by rw [x.new _ _ g2 .lst]; exact g4) g5 g6 rfl ⟨ws ++ [v], upd_same, (g3.mono x.grow).append (.cons r' .nil), by rw [x.new _ _ g2 .lst]; exact g4, g5, g6⟩) p.2⟩
          exact Nat.lt_of_le_of_lt (show ws.length ≤ 100000 by rw [g3.length]; omega) (by decide)
/-- from here on the dict's entry holds the list itself -/
@[reducible] def sRes (i j : Nat) (T : DSt) : DSt := fun E γ => match gat γ i, gat γ j with
  | .obj l o, .hid m xs => (match o with | .dK kvs => T E (gset (gset γ i (.obj l (.dK (resK m xs kvs)))) j .un) | _ => False)
  | _, _ => False
theorem DS.res {ts : TS} {T : DSt} (i j : Nat) (h : DS b ts T) : DS b ts (sRes i j T) := fun {Fm F0 H0 F H σ γ} E n t D k => by
  unfold sRes at t
  cases ei : gat γ i with
  | un => rw [ei] at t; exact t.elim
  | val d => rw [ei] at t; exact t.elim
  | own l d => rw [ei] at t; exact t.elim
  | hid l d => rw [ei] at t; exact t.elim
  | obj l d =>
    cases ej : gat γ j with
    | un => rw [ei, ej] at t; exact t.elim
    | val d => rw [ei, ej] at t; exact t.elim
    | own l d => rw [ei, ej] at t; exact t.elim
    | obj l d => rw [ei, ej] at t; exact t.elim
    | hid m xs =>
      rw [ei, ej] at t
      cases d <;> first | exact t.elim | skip
      obtain ⟨F', n'⟩ := n.resolve ei ej
      exact h E n' t D k
theorem ss_res {st : List Stmt} (i j : Nat) (h : XSs X b st T) : XSs X b st (sRes i j T) := by
  obtain ⟨_, h1, h2⟩ := h
  exact ⟨_, h1, h2.res i j⟩
end
end DL

namespace DL
open PySem PySem.Spec PyProof.Rows L2
section
variable {X : Cx} {b : Bg} {e e1 e2 e3 e4 o tg : Expr} {es : List Expr} {pos : Pos} {K : PySem.W.Frag} {Fx : Hp}
/-- a statement that is never come to -/
@[reducible] def sNever : DSt := fun _ _ => False
theorem s_never {st : Stmt} : XS X b st sNever := ⟨fun _ _ _ => False, ⟨fun _ _ _ _ _ _ h => h.elim⟩, fun _ _ t _ _ => t.elim⟩
/-- min(m, n) -/
@[reducible] def bMin2 : DSp := fun ds P => match ds with | [.int i, .int j] => P (.int (if j < i then j else i)) | _ => False
theorem x_min2 {p : Pos} (hc : X.calm = true) (hg : Gl X "min") (hm : X.mg "min" = none) (ha : XA X b [e1, e2] Ta) (he : starEach [e1, e2] X.env = (false, eval e1 X.env) :: starEach [e2] X.env := by rfl) (hpl : (backTo pos (starEach [e2] X.env)).any (·.1) = false := by rfl) : XE X b (.Call (.Name "min" p) [e1, e2] [] pos) (dBi bMin2 Ta) := by
  obtain ⟨_, h1, h2⟩ := ha
  refine ⟨_, pe_callB (call_min2 hc) hg hm (by decide +kernel) h1 (he := he) (hpl := hpl), de_cb (fun {F H vs ds} P k r t Q q => ?_) h2⟩
  cases r with
  | nil => exact t.elim
  | cons r1 r2 =>
    cases r2 with
    | nil => cases r1 <;> exact t.elim
    | cons r2 r3 =>
      cases r3 with
      | cons _ _ => cases r1 <;> cases r2 <;> exact t.elim
      | nil =>
        cases r1 <;> cases r2 <;> first | exact t.elim | skip
        exact ⟨_, _, rfl, q _ _ F H (Ext.refl k) (.int _) t⟩
/-- a slice of a tuple -/
theorem x_slT {lo hi : Option Expr} {p2 : Pos} (ha : XE X b e Ta) (hl : XO X b lo Tl) (hh : XO X b hi Th) : XE X b (.Subscript e (.Slice lo hi none p2) pos) (fun γ P => Ta γ fun x => Tl γ fun lo => Th γ fun hi => match x with | .tup z => P (.tup (cutD z lo hi)) | _ => False) := by
  obtain ⟨_, h1, h2⟩ := ha; obtain ⟨_, g1, g2⟩ := hl; obtain ⟨_, f1, f2⟩ := hh
  refine ⟨_, pe_slice sl_tupA h1 g1 f1, fun P n t Q q => h2 _ n t _ fun v d F1 H1 x1 r1 t1 => g2 _ (n.to x1) t1 _ fun o F2 H2 x2 t2 => f2 _ (n.to (x1.trans x2)) t2 _ fun u F3 H3 x3 t3 => ?_⟩
  cases r1 <;> first | exact t3.elim | skip
  rename_i vs xs h r
  have y := (x1.trans x2).trans x3
  have g := (x2.trans x3).grow
  refine ⟨_, vs, rfl, SqT.of (y.sub _ _ (g _ _ h)), fun hq => ?_, fun _ p hp => ?_⟩
  · have ec : cutD xs o u = xs := by
      rw [r.length] at hq
      unfold cutD
      rw [hq.1, hq.2, Nat.sub_zero, List.drop_zero, List.take_length]
    have t4 : P (.tup (cutD xs o u)) := t3
    rw [ec] at t4
    exact q _ _ F3 H3 y (.tup (g _ _ h) (r.mono g)) t4
  · exact q _ _ _ _ (y.trans (Ext.push y.ok hp)) (.tup upd_same ((cut_rep r).mono (g.trans (Ext.push y.ok hp).grow))) t3
/-- tuple + tuple -/
@[reducible] def vAddT (x y : Dt) (P : Dt → Prop) : Prop := match x, y with | .tup u, .tup z => u.length + z.length ≤ 100000 ∧ P (.tup (u ++ z)) | _, _ => False
theorem x_addT (ha : XE X b e1 Ta) (hb : XE X b e2 Tb) : XE X b (.BinOp e1 .Add e2 pos) (d2 vAddT Ta Tb) := by
  obtain ⟨_, h1, h2⟩ := ha; obtain ⟨_, g1, g2⟩ := hb
  refine ⟨_, pe_op op_catA h1 g1, de_op (fun {F H x y d e} P k r1 r2 t Q q => ?_) h2 g2⟩
  cases r1 <;> cases r2 <;> first | exact t.elim | skip
  rename_i us u h1 r1 _ ws z h2 r2
  refine ⟨_, _, us, ws, rfl, rfl, SqT.of (k.1 _ _ h1), SqT.of (k.1 _ _ h2), Nat.le_trans (by rw [r1.length, r2.length]; exact t.1) (by decide), fun eu => ?_, fun _ ew => ?_, fun _ _ p hp => ?_⟩
  · subst eu
    cases r1
    exact q _ _ F H (Ext.refl k) (.tup h2 r2) t.2
  · subst ew
    cases r2
    have t2 := t.2
    rw [List.append_nil] at t2
    exact q _ _ F H (Ext.refl k) (.tup h1 r1) t2
  · exact q _ _ _ _ (Ext.push k hp) (.tup upd_same ((r1.append r2).mono (Ext.push k hp).grow)) t.2
/-- x.insert(i, e) of a list of one's own -/
@[reducible] def sIns (i : Nat) (Ta : DAt) : DSt := fun E γ => match gat γ i with
  | .own l xs => Ta γ fun ds => (match ds with | [.int j, d] => xs.length < 100000 ∧ 0 ≤ j ∧ j < 2 ^ 63 ∧ E.nx (gset γ i (.own l (xs.take j.toNat ++ [d] ++ xs.drop j.toNat))) | _ => False)
  | _ => False
theorem s_ins (i : Nat) {x : Str} {p1 apos p2 : Pos} (ha : XA X b [e1, e2] Ta) (hN : X.N[i]? = some x := by rfl) (hv : Vis X.env.scope x := by first | exact Or.inl rfl | exact Or.inr (Or.inl rfl) | exact Or.inr (Or.inr rfl)) (hd : (x == ("__debug__" : Str)) = false := by decide)
    (hcd : (x == ("__classdict__" : Str)) = false := by decide)
    (hpe : ∀ {te : TE} {t : TA}, PE X (.Name x p1) te → PA X [e1, e2] t → PE X (.Call (.Attribute (.Name x p1) "insert" apos) [e1, e2] [] p2) (tBM X.K "list" (fun x vs H Q => ∃ (l : Addr) (xs : List V) (i : Int) (y : V), x = .ref l ∧ vs = [.int i, y] ∧ H l = some (.lst xs) ∧ xs.length < sizeLine ∧ 0 ≤ i ∧ i < 2 ^ 63 ∧ Q .non (upd H l (.lst (xs.take i.toNat ++ [y] ++ xs.drop i.toNat)))) te t) := by exact fun h g => pe_bm PySem.F.plainAttrs_list PySem.F.slot_list_insert PySem.F.type_list_insert mt_insert h g)
    (hs : swapsWith (.Call (.Attribute (.Name x p1) "insert" apos) [e1, e2] [] p2) none pos.line X.env = pure false := by rfl) : XS X b (.Expr (.Call (.Attribute (.Name x p1) "insert" apos) [e1, e2] [] p2) pos) (sIns i Ta) := by
  obtain ⟨_, h1, h2⟩ := ha
  refine ⟨_, ps_expr (hpe (pe_var hN hv hd hcd) h1) hs, fun {Fm F0 H0 F H σ γ} E n t D k => ?_⟩
  unfold sIns at t
  have hi := n.slot i
  cases e : gat γ i with
  | un => rw [e] at t; exact t.elim
  | val d => rw [e] at t; exact t.elim
  | obj l d => rw [e] at t; exact t.elim
  | hid l d => rw [e] at t; exact t.elim
  | own l xs =>
    rw [e] at hi t
    obtain ⟨vs, a1, a2, a3, a4, a5, a6⟩ := hi
    refine ⟨_, a1, Or.inl ⟨rfl, vs, SqL.of a2⟩, h2 _ n t _ fun ws ds F' H' x r p => ?_⟩
    cases r with
    | nil => exact p.elim
    | cons r1 r2 =>
      cases r2 with
      | nil => cases r1 <;> exact p.elim
      | cons r2 r3 =>
        cases r3 with
        | cons _ _ => cases r1 <;> exact p.elim
        | nil =>
          cases r1 <;> first | exact p.elim | skip
          obtain ⟨p0, p1, p2, p3⟩ := p
          refine ⟨l, vs, _, _, rfl, rfl, x.keep _ _ a6 a2 .lst, Nat.lt_of_le_of_lt (show vs.length ≤ 100000 by rw [a3.length]; omega) (by decide), p1, p2, k.nx ((n.to x).wr e ((((a3.mono x.grow).take _).append (.cons r2 .nil)).append ((a3.mono x.grow).drop _))) p3⟩
/-- C.f, an int that is a constant of the class -/
theorem x_clsi {C : Addr} {mc : Value} {x f : Str} {p1 : Pos} {i : Int} {tk : Tok} (hg : Gl X x) (hm : X.mg x = some (.ref C)) (r : ClX.CRead X.K C mc) (c : ClX.CVal X.K C mc f (.int i) (.int i tk)) (hd : (x == ("__debug__" : Str)) = false := by decide)
    (hp : ∀ {te : TE}, PE X (.Name x p1) te → PE X (.Attribute (.Name x p1) f pos) (ClX.tCVal X.K te f) := by exact fun h => ClX.pe_cval h rfl) : XE X b (.Attribute (.Name x p1) f pos) (dC (.int i)) :=
  ⟨_, hp (pe_glob (v := .ref C) hg hm rfl hd), fun P n t Q q => ⟨C, mc, _, _, rfl, r, c, q _ _ _ _ (Ext.refl n.ok) (.int _) t⟩⟩
end
end DL

namespace ZN
open PySem PySem.Spec PyProof.Rows L2
/-! zip of tuples and lists of one length, by their names; any target -/
section
variable {prog : Program} {w : World} {A : Around} {E : Value → Shared → Prop} {s : Shared} {B n k : Nat} {ls : Nat → Bool × Addr}
theorem letGoN {tg : Expr} {T : Addr} {Q : Unit → Shared → Prop} (z : ZipAt B n k ls s.heap) (hQ : ∀ h', ZipAt B n k ls h' → Heap.ExtBut (B + n + 2) s.heap h' → h'.objs.size = s.heap.objs.size → Q () { s with heap := h' }) :
    wpAny (model prog w) A (letOwnedTupleGo tg (.ref (B + n + 2)) (.ref T)) Q E s := by
  have same : Q () s := hQ s.heap z (fun _ _ _ e => e) rfl
  obtain ⟨⟨f0, f1, hf, hz⟩, ti, to, its⟩ := z
  have core : wpAny (model prog w) A (setField (.ref (B + n + 2)) 0 .none) Q E s := by
    refine wpAny_setField_rec hz (by simp) fun h' hz' hs' => hQ h' ⟨⟨.none, f1, .inl rfl, hz'⟩, ?_, ?_, ?_⟩ hs'.extBut hs'.1
    · exact hs'.extBut _ _ (ne_add (by omega)) ti
    · obtain ⟨arr, a1, a2⟩ := to
      exact ⟨arr, a1, hs'.extBut _ _ (ne_add (by omega)) a2⟩
    · exact fun i hi => (its i hi).extBut hs'.extBut (ne_add (by omega))
  unfold letOwnedTupleGo
  cases tg <;> first
    | exact wpAny_pure same
    | (refine wpAny_bind (wpAny_load hz ?_)
       dsimp only
       split
       · exact wpAny_bind (wpAny_rule core)
       · exact wpAny_pure same)
end
theorem turn_zipM {P : Program} {w : World} {K : PySem.W.Frag} {tg : Expr} {as : List (Bool × Addr)} {rows : List (List V)} {m B : Nat} (hl : as.length = rows.length) (h0 : 0 < rows.length) (h1 : rows.length ≤ 100000) (hm : ∀ (j : Nat) (xs : List V), rows[j]? = some xs → xs.length = m) (hB : ∀ j, j < rows.length → (as.getD j (false, 0)).2 < B) :
    Turn P w K tg (ItN K as rows m) (fps B rows.length) (B + rows.length + 2) (fun i h => ZipAt B rows.length i (fun j => as.getD j (false, 0)) h) where
  mem := (turn_zipN (P := P) (w := w) (K := K) (x := "x") (tpos := ⟨0, 0, 0, 0⟩) hl h0 h1 hm hB).mem
  obj := (turn_zipN (P := P) (w := w) (K := K) (x := "x") (tpos := ⟨0, 0, 0, 0⟩) hl h0 h1 hm hB).obj
  keep := (turn_zipN (P := P) (w := w) (K := K) (x := "x") (tpos := ⟨0, 0, 0, 0⟩) hl h0 h1 hm hB).keep
  done := (turn_zipN (P := P) (w := w) (K := K) (x := "x") (tpos := ⟨0, 0, 0, 0⟩) hl h0 h1 hm hB).done
  self := fun A i s Q E st h => self_zip st h
  item := by
    intro X hP hw hK hc i pins s σ H E I hf st hg
    subst hP hw hK
    have hg' := hg
    obtain ⟨hi, hq⟩ := hg'
    obtain ⟨its, hits⟩ := rows_at I hl hq
    have hlen : ∀ j, j < rows.length → (its j).length = m := fun j hj => by
      rw [← (hits j hj).1.length, List.getD_eq_getElem?_getD, List.getElem?_eq_getElem hj]
      exact hm j _ (List.getElem?_eq_getElem hj)
    have hx : ∀ j, j < rows.length → (its j).toArray[i]? = some ((its j).getD i .none) := fun j hj => by
      have := hlen j hj
      rw [List.getElem?_toArray, List.getD_eq_getElem?_getD, List.getElem?_eq_getElem (by omega)] <;> rfl
    refine pyNext_item h0 h1 st (fun j hj => (hits j hj).2) hB hx fun h₁ z₁ hT₁ hsz₁ hk₁ => ?_
    refine ⟨_, rfl, letGoN (s := { s with heap := h₁ }) z₁ fun h' z' ex hsz' => ?_⟩
    have hzl : B + rows.length + 2 < s.heap.objs.size := by
      obtain ⟨_, _, _, hz⟩ := st.z
      exact Heap.lt_size hz
    have hT : h'.get? s.heap.objs.size = some { cls := .type "tuple", data := .seq ((List.range rows.length).map fun j => (its j).getD i .none).toArray } := ex _ _ (Nat.ne_of_gt hzl) hT₁
    have hk : ∀ c o, c < B ∨ B + rows.length + 2 < c → s.heap.get? c = some o → h'.get? c = some o := fun c o hc e => ex _ _ (by rintro rfl; omega) (hk₁ c o hc e)
    have new : ObjOk X.prog X.w (upd H s.heap.objs.size (.tup (rows.map fun xs => xs.getD i .non))) h' s.heap.objs.size (.tup (rows.map fun xs => xs.getD i .non)) := by
      refine ⟨by rw [List.length_map]; show _ ≤ 2 ^ 24; omega, _, vals_map (g := fun j => (its j).getD i .none) fun j xs hj => ?_, ⟨_, hT, rfl, _, rfl⟩⟩
      have hjl : j < rows.length := (List.getElem?_eq_some_iff.mp hj).1
      have rv := (hits j hjl).1
      rw [List.getD_eq_getElem?_getD, hj] at rv
      have hi2 : i < xs.length := by rw [hm j xs hj]; exact hi
      obtain ⟨u, hu, ru⟩ := Vals.get rv (List.getElem?_eq_getElem hi2)
      rw [List.getD_eq_getElem?_getD, List.getElem?_eq_getElem hi2, List.getD_eq_getElem?_getD, hu]
      exact ru
    have I1 : Inv X pins σ (upd H s.heap.objs.size (.tup (rows.map fun xs => xs.getD i .non))) { s with heap := h' } :=
      I.turnedNew (t' := s.toks) (ch := fps B rows.length) (fun c o hb q => hk c o (fps_out hb) q) hf (Nat.le_refl _) new
    refine ⟨.ref s.heap.objs.size, _, I1, rfl, ⟨_, rfl, I.hok.fresh (Nat.le_refl _), rfl⟩, z', fun c hcm => ?_⟩
    rw [upd_ne (Nat.ne_of_lt (fps_lt hcm hzl))]
    exact (hf c hcm).1
/-- zip(a, c, ..) -/
def iZipM (K : PySem.W.Frag) (ta : TA) : TI := fun σ H R => ta σ H fun vs H1 => ∃ (as : List (Bool × Addr)) (rows : List (List V)) (m : Nat), vs = (as.map fun a => V.ref a.2) ∧ as.length = rows.length ∧ 0 < rows.length ∧ rows.length ≤ 100000 ∧ (∀ (j : Nat) (xs : List V), rows[j]? = some xs → xs.length = m) ∧
  (∀ (j : Nat) (a : Bool × Addr) (xs : List V), as[j]? = some a → rows[j]? = some xs → SqB K H1 a xs) ∧ R (ItN K as rows m) H1
theorem pi_zipM {X : Cx} {e : Expr} {es : List Expr} {ta : TA} {p pos : Pos} {tg : Expr} (hg : Gl X "zip") (hm : X.mg "zip" = none) (ha : PA X (e :: es) ta)
    (hs : starEach (e :: es) X.env = (false, eval e X.env) :: starEach es X.env := by rfl) (hpl : (backTo pos (starEach es X.env)).any (·.1) = false := by rfl) :
    PI X tg (.Call (.Name "zip" p) (e :: es) [] pos) (iZipM X.K ta) := by
  refine ⟨fun pins s σ H R I h => ?_⟩
  refine Call_ (ld_blt I hg hm PyProof.Rows.boot_zip (PyProof.Rows.callWith_type1 (thn (ha.run pos pins s σ H _ I h) fun us s1 ⟨vs, H1, I1, r1, q1⟩ => ?_) hs hpl))
  obtain ⟨as, rows, m, ev, hl, h0, h1, h2, h3, q⟩ := q1
  subst ev
  rw [refs_vals r1, addrs_eq, hl]
  obtain ⟨its, hits⟩ := rows_at I1 hl h3
  have hB : ∀ j, j < rows.length → (as.getD j (false, 0)).2 < s1.heap.objs.size := fun j hj => by
    obtain ⟨o, ho⟩ := (hits j hj).2.there
    exact Heap.lt_size ho
  refine call_zipN h0 h1 (fun j hj => (hits j hj).2) fun h' z k => self_zip (s := { s1 with heap := h' }) z ?_
  refine ⟨s1.heap.objs.size + rows.length + 2, fps s1.heap.objs.size rows.length, _, _, H1, rfl, I1.kept (t' := s1.toks) k, turn_zipM hl h0 h1 h2 hB, z, fun b hb => ?_, q⟩
  have hle := (mem_fps.mp hb).1
  exact I1.fpOk hle (I1.hok.fresh hle)
end ZN
namespace TM
open PySem PySem.Spec PyProof.Rows L2
/-! tuple * 0, tuple * 1 -/
theorem mul_one (l : Addr) (its : Array Value) (n : Nat) (dd : Option Addr) (sl : Array (Option Value)) (u : Tok) :
    Meets (Builtin.«tuple.__mul__» ⟨[.ref l, .int 1 u], []⟩) (fun _ R s => s.heap.get? l = some { cls := .type "tuple", dict := dd, data := .seq its n, slots := sl } ∧ R (.ok (.ret (Value.ref l))) s) :=
  .of_wp fun prog w A R s h => by
    obtain ⟨hp, g, d, tk, os⟩ := s
    obtain ⟨hl, h⟩ := h
    have f1 := AutoSeq1.idx_int
    wp_walk using wpAny_loadPart' hl
    repeat (first
      | (refine wpAny_ite_false (by decide) ?_; wp_walk using wpAny_loadPart' hl)
      | (refine wpAny_ite_true (by simp) ?_; wp_walk using wpAny_loadPart' hl))
    exact ⟨_, rfl, h⟩
theorem mul_nil (l : Addr) (its : Array Value) (n : Nat) (dd : Option Addr) (sl : Array (Option Value)) (u : Tok) (c1 : its.isEmpty = false) :
    Meets (Builtin.«tuple.__mul__» ⟨[.ref l, .int 0 u], []⟩) (fun _ R s => s.heap.get? l = some { cls := .type "tuple", dict := dd, data := .seq its n, slots := sl } ∧
      R (.ok (.ret (Value.ref s.heap.objs.size))) { s with heap := s.heap.push { cls := Value.type "tuple", data := Data.seq #[] }, toks := s.toks }) :=
  .of_wp fun prog w A R s h => by
    obtain ⟨hp, g, d, tk, os⟩ := s
    obtain ⟨hl, h⟩ := h
    have f1 := AutoSeq1.idx_int
    wp_walk using wpAny_loadPart' hl
    repeat (first
      | (refine wpAny_ite_false (by decide) ?_; wp_walk using wpAny_loadPart' hl)
      | (refine wpAny_ite_false (by rw [c1]; decide) ?_; wp_walk using wpAny_loadPart' hl)
      | (refine wpAny_ite_true (by simp) ?_; wp_walk using wpAny_loadPart' hl))
    exact ⟨_, rfl, h⟩
end TM

namespace DL
open PySem PySem.Spec PyProof.Rows L2 ZN
section
variable {X : Cx} {b : Bg} {e e1 e2 e3 tg : Expr} {es : List Expr} {pos : Pos} {K : PySem.W.Frag} {Fx : Hp}
/-! great numbers -/
theorem x_mulW (ha : XE X b e1 Ta) (hb : XE X b e2 Tb) : XE X b (.BinOp e1 .Mult e2 pos) (d2 (vIntC CMulW fun i j => i * j) Ta Tb) := by
  obtain ⟨_, h1, h2⟩ := ha; obtain ⟨_, g1, g2⟩ := hb
  exact ⟨_, pe_op op_mulW h1 g1, de_op (d2_I fun i j _ => .int _) h2 g2⟩
theorem x_fdivW (ha : XE X b e1 Ta) (hb : XE X b e2 Tb) : XE X b (.BinOp e1 .FloorDiv e2 pos) (d2 (vIntC CDivW fun i j => i / j) Ta Tb) := by
  obtain ⟨_, h1, h2⟩ := ha; obtain ⟨_, g1, g2⟩ := hb
  exact ⟨_, pe_op op_fdivW h1 g1, de_op (d2_I fun i j _ => .int _) h2 g2⟩
/-! two ints to an int -/
@[reducible] def b2I (f : Int → Int → Int) : DSp := fun ds P => match ds with | [.int i, .int j] => P (.int (f i j)) | _ => False
theorem dcr_2I {f : Int → Int → Int} {r : List V → Hp → VK → Prop} (h : ∀ i j H Q, Q (.int (f i j)) H → r [.int i, .int j] H Q) : DCr b r (b2I f) := fun {F H vs ds} P k r t Q q => by
  cases r with
  | nil => exact t.elim
  | cons r1 r2 =>
    cases r2 with
    | nil => cases r1 <;> exact t.elim
    | cons r2 r3 =>
      cases r3 with
      | cons _ _ => cases r1 <;> cases r2 <;> exact t.elim
      | nil =>
        cases r1 <;> cases r2 <;> first | exact t.elim | skip
        exact h _ _ _ _ (q _ _ F H (Ext.refl k) (.int _) t)
theorem x_gcd {p : Pos} (hg : Gl X "gcd") (hm : X.mg "gcd" = some (.builtin "math.gcd")) (ha : XA X b [e1, e2] Ta) (he : starEach [e1, e2] X.env = (false, eval e1 X.env) :: starEach [e2] X.env := by rfl) (hpl : (backTo pos (starEach [e2] X.env)).any (·.1) = false := by rfl) : XE X b (.Call (.Name "gcd" p) [e1, e2] [] pos) (dBi (b2I fun i j => ((Nat.gcd i.natAbs j.natAbs : Nat) : Int)) Ta) := by
  obtain ⟨_, h1, h2⟩ := ha
  exact ⟨_, pe_callBfun cr_gcd hg hm h1 (he := he) (hpl := hpl), de_cb (dcr_2I fun i j H Q q => ⟨i, j, rfl, q⟩) h2⟩
theorem x_max2 {p : Pos} (hc : X.calm = true) (hg : Gl X "max") (hm : X.mg "max" = none) (ha : XA X b [e1, e2] Ta) (he : starEach [e1, e2] X.env = (false, eval e1 X.env) :: starEach [e2] X.env := by rfl) (hpl : (backTo pos (starEach [e2] X.env)).any (·.1) = false := by rfl) : XE X b (.Call (.Name "max" p) [e1, e2] [] pos) (dBi (b2I fun i j => if j > i then j else i) Ta) := by
  obtain ⟨_, h1, h2⟩ := ha
  refine ⟨_, pe_callB (call_max2 hc) hg hm (by decide +kernel) h1 (he := he) (hpl := hpl), ?_⟩
  exact de_cb (dcr_2I (f := fun i j => if j > i then j else i) (r := fun xs H Q => ∃ i j, xs = [.int i, .int j] ∧ Q (.int (if j > i then j else i)) H) fun i j H Q q => ⟨i, j, rfl, q⟩) h2
@[reducible] def bAbs : DSp := fun ds P => match ds with | [.int i] => P (.int (if i < 0 then -i else i)) | _ => False
theorem x_abs {p : Pos} (hg : Gl X "abs") (hm : X.mg "abs" = none) (ha : XA X b [e] Ta) (he : starEach [e] X.env = (false, eval e X.env) :: starEach [] X.env := by rfl) (hpl : (backTo pos (starEach [] X.env)).any (·.1) = false := by rfl) : XE X b (.Call (.Name "abs" p) [e] [] pos) (dBi bAbs Ta) := by
  obtain ⟨_, h1, h2⟩ := ha
  refine ⟨_, pe_callB call_abs hg hm (by decide +kernel) h1 (he := he) (hpl := hpl), de_cb (fun {F H vs ds} P k r t Q q => ?_) h2⟩
  cases r with
  | nil => exact t.elim
  | cons r1 r2 =>
    cases r2 with
    | cons _ _ => cases r1 <;> exact t.elim
    | nil =>
      cases r1 <;> first | exact t.elim | skip
      exact ⟨_, rfl, q _ _ F H (Ext.refl k) (.int _) t⟩
/-! for i in reversed(range(n)) -/
def rvD (n : Nat) : List Dt := (List.range n).map fun i => .int ((n : Int) - 1 - (i : Nat))
theorem rvD_len (n : Nat) : (rvD n).length = n := by unfold rvD; simp
theorem rvD_at {n i : Nat} {d : Dt} (h : (rvD n)[i]? = some d) : i < n ∧ d = .int ((n : Int) - 1 - (i : Nat)) := by
  have hi : i < n := by have := (List.getElem?_eq_some_iff.mp h).1; rw [rvD_len] at this; exact this
  unfold rvD at h
  rw [List.getElem?_map, List.getElem?_range hi] at h
  exact ⟨hi, (Option.some.inj h).symm⟩
theorem walkd_rv {n : Nat} {lo : Int} (hlo : lo = (n : Int) - 1) : WalkD b (Itc lo (-1) n) Fx (rvD n) := by
  refine ⟨YFn fun i => .int (lo + (i : Nat) * (-1)), ?_, fun i H x H' hi y => ?_⟩
  · rw [rvD_len]
    exact (walk_rangeC (lo := lo) (c := -1) (n := n)).mono (fun _ _ => trivial) (fun _ _ _ _ _ _ y => y)
  rw [rvD_len] at hi
  obtain ⟨e1, e2⟩ := y
  refine ⟨.int ((n : Int) - 1 - (i : Nat)), ?_, .inl ⟨e1, ?_⟩⟩
  · unfold rvD
    rw [List.getElem?_map, List.getElem?_range hi] <;> rfl
  · have e3 : x = .int (lo + (i : Nat) * (-1)) := e2
    rw [e3, hlo, show ((n : Int) - 1 + (i : Nat) * (-1)) = (n : Int) - 1 - (i : Nat) by omega]
    exact .int _
@[reducible] def iRv (Ta : DT) : DAt := fun γ P => Ta γ fun d => match d with | .int j => -100000 ≤ j ∧ j ≤ 100000 ∧ P (rvD j.toNat) | _ => False
theorem i_rv {p p2 pos2 : Pos} (hg : Gl X "reversed") (hm : X.mg "reversed" = none) (hg2 : Gl X "range") (hm2 : X.mg "range" = none) (ha : XE X b e Ta)
    (hs : starEach [.Call (.Name "range" p2) [e] [] pos2] X.env = (false, eval (.Call (.Name "range" p2) [e] [] pos2) X.env) :: starEach [] X.env := by rfl) (hs2 : starEach [e] X.env = [(false, eval e X.env)] := by rfl) :
    XI X b tg (.Call (.Name "reversed" p) [.Call (.Name "range" p2) [e] [] pos2] [] pos) (iRv Ta) := by
  obtain ⟨_, h1, h2⟩ := ha
  refine ⟨_, pi_revR hg hm (prg_1 hg2 hm2 h1 hs2) hs, fun P n t R q => h2 _ n t _ fun v d F1 H1 x1 r1 t1 => ?_⟩
  cases r1 <;> first | exact t1.elim | skip
  rename_i j
  obtain ⟨a1, a2, t1⟩ := t1
  refine ⟨j, rfl, by omega, by omega, by omega, by omega, ?_⟩
  have e0 : (j - 0).toNat = j.toNat := by rw [Int.sub_zero]
  rw [e0]
  exact q _ _ F1 H1 x1 (walkd_rv (by omega)) t1
/-! while -/
@[reducible] def sWh (A : DBt) (Tb : DSt) : DSt := fun E γ => Word (∃ Iv : Nat → Gm → Prop, (∃ m, Iv m γ) ∧ ∀ m γ', Iv m γ' → A γ' fun c => (match c with | true => Tb { E with nx := fun γ2 => ∃ m', m' < m ∧ Iv m' γ2, ct := fun γ2 => ∃ m', m' < m ∧ Iv m' γ2, bk := E.nx } γ' | false => E.nx γ'))
theorem s_while {c : Expr} {body : List Stmt} {A : DBt} {Tb : DSt} (hc : XT X b c A) (h : XSs X b body Tb) (hp : PassesOwn (model X.prog X.w) X.A X.env X.xe := by exact PassesOwn.never) : XS X b (.While c body [] pos) (sWh A Tb) := by
  obtain ⟨_, c1, c2⟩ := hc; obtain ⟨_, h1, h2⟩ := h
  refine ⟨_, ps_while hp c1 h1, fun {Fm F0 H0 F H σ γ} E n t D k => ?_⟩
  obtain ⟨Iv, ⟨m0, i0⟩, is⟩ := t
  refine ⟨fun m σ' H' => ∃ F' γ', Nv b Fm F0 H0 F' H' σ' γ' ∧ Iv m γ', ⟨m0, F, γ, n, i0⟩, ?_⟩
  rintro m σ' H' ⟨F', γ', n', p⟩
  refine c2 _ n' (is m γ' p) _ fun c F2 H2 x2 t2 => ?_
  cases c with
  | false => exact iteF (k.nx (n'.to x2) t2)
  | true =>
    refine iteT ⟨fun σ3 H3 => ∃ m', m' < m ∧ ∃ F3 γ3, Nv b Fm F0 H0 F3 H3 σ3 γ3 ∧ Iv m' γ3, fun σ3 H3 ⟨m', l, r⟩ => ⟨m', l, r⟩, h2 _ (n'.to x2) t2 _ ⟨?_, ?_, ?_, ?_⟩⟩
    · rintro F3 H3 σ3 γ3 n3 ⟨m', l, r⟩
      exact ⟨m', l, _, _, n3, r⟩
    · intro F3 H3 σ3 γ3 v d n3 r3 p3
      exact k.rt n3 r3 p3
    · intro F3 H3 σ3 γ3 n3 p3
      exact k.nx n3 p3
    · rintro F3 H3 σ3 γ3 n3 ⟨m', l, r⟩
      exact ⟨m', l, _, _, n3, r⟩
/-! y = xs.pop(k), xs a list of one's own -/
theorem RepL.erase {F : Hp} : ∀ {xs : List Dt} {vs : List V} (n : Nat), RepL b F vs xs → RepL b F (vs.eraseIdx n) (xs.eraseIdx n)
  | _, _, _, .nil => .nil
  | _, _, 0, .cons _ t => t
  | _, _, n + 1, .cons r t => .cons r (RepL.erase n t)
@[reducible] def sPop (i j : Nat) (Ta : DT) : DSt := fun E γ => match gat γ i with
  | .own l xs => (Ta γ fun d => match d with | .int k => ∃ n y, ixN xs.length k = some n ∧ xs[n]? = some y ∧ -(2 ^ 63) ≤ k ∧ k < 2 ^ 63 ∧ E.nx (gset (gset γ i (.own l (xs.eraseIdx n))) j (.val y)) | _ => False)
  | _ => False
theorem s_pop (i j : Nat) {x y : Str} {p1 p2 p3 apos : Pos} (hN : X.N.Nodup) (hj : X.N[j]? = some y) (hy : Loc X.env.scope y) (ha : XE X b e Ta) (hN2 : X.N[i]? = some x := by rfl) (hv : Vis X.env.scope x := by first | exact Or.inl rfl | exact Or.inr (Or.inl rfl) | exact Or.inr (Or.inr rfl)) (hd : (x == ("__debug__" : Str)) = false := by decide)
    (hcd : (x == ("__classdict__" : Str)) = false := by decide) (he : starEach [e] X.env = (false, eval e X.env) :: starEach [] X.env := by rfl)
    (hpe : ∀ {te : TE} {t : TA}, PE X (.Name x p1) te → PA X [e] t → PE X (.Call (.Attribute (.Name x p1) "pop" apos) [e] [] p2) (tBM X.K "list" (fun x vs H Q => ∃ (l : Addr) (xs : List V) (i : Int) (k : Nat) (y : V), x = .ref l ∧ vs = [.int i] ∧ H l = some (.lst xs) ∧ -(2 ^ 63) ≤ i ∧ i < 2 ^ 63 ∧ seqIndex? i xs.length = some k ∧ xs[k]? = some y ∧ Q y (upd H l (.lst (xs.eraseIdx k)))) te t) := by exact fun h g => pe_bm PySem.F.plainAttrs_list PySem.F.slot_list_pop PySem.F.type_list_pop mt_popAt h g)
    (hs : swapsWith (.Call (.Attribute (.Name x p1) "pop" apos) [e] [] p2) (some (.Name y p3)) pos.line X.env = pure false := by rfl) (hf : X.fn y = true ∨ X.env.scope.names.lookup y = some .local := by first | exact .inl rfl | exact .inr rfl | assumption) : XS X b (.Assign [.Name y p3] (.Call (.Attribute (.Name x p1) "pop" apos) [e] [] p2) pos) (sPop i j Ta) := by
  obtain ⟨_, h1, h2⟩ := ha
  refine ⟨_, ps_set hN hj hy (hpe (pe_var hN2 hv hd hcd) (pa_cons h1 pa_nil he)) hs hf, fun {Fm F0 H0 F H σ γ} E n t D k => ?_⟩
  unfold sPop at t
  have hi := n.slot i
  cases e : gat γ i with
  | un => rw [e] at t; exact t.elim
  | val d => rw [e] at t; exact t.elim
  | obj l d => rw [e] at t; exact t.elim
  | hid l d => rw [e] at t; exact t.elim
  | own l xs =>
    rw [e] at hi t
    obtain ⟨vs, a1, a2, a3, a4, a5, a6⟩ := hi
    refine ⟨_, a1, Or.inl ⟨rfl, vs, SqL.of a2⟩, h2 _ n t _ fun v d F' H' x r p => ?_⟩
    cases r <;> first | exact p.elim | skip
    rename_i z
    obtain ⟨m, d, p1, p2, p3, p4, p5⟩ := p
    obtain ⟨w, hw, rw_⟩ := (a3.mono x.grow).get' p2
    refine ⟨l, vs, z, m, w, rfl, rfl, x.keep _ _ a6 a2 .lst, p3, p4, by rw [a3.length]; exact (ixN_seq p1).1, hw, k.nx (((n.to x).wr e ((a3.mono x.grow).erase m)).set j rw_) p5⟩
/-! x, y = [..], e: the list stays one's own -/
@[reducible] def sParL (i j : Nat) (Tl : DAt) (Tc : DT) : DSt := fun E γ => Tl γ fun xs => Tc γ fun d => ∀ l, E.nx (gset (gset γ i (.own l xs)) j (.val d))
theorem s_parL {i j : Nat} {x y : Str} {a c : Expr} {px py pt : Pos} {kt k2 pt2} (hc : X.calm = true) (hN : X.N.Nodup) (hi : X.N[i]? = some x) (hj : X.N[j]? = some y) (hij : i ≠ j)
    (hx : X.env.scope.names.lookup x = some .local) (hy : X.env.scope.names.lookup y = some .local) (ha : XL X b a Tl) (hcc : XE X b c Tc)
    (hw : swappedStores [.Tuple [.Name x px, .Name y py] kt pt] (.Tuple [a, c] k2 pt2) X.env = pure (some [x, y]))
    (hs : swapsWithSole [.Tuple [.Name x px, .Name y py] kt pt] (.Tuple [a, c] k2 pt2) pos.line X.env = pure false := by rfl)
    (hs1 : starEach [a, c] X.env = (false, eval a X.env) :: starEach [c] X.env := by rfl) (hs2 : starEach [c] X.env = (false, eval c X.env) :: starEach [] X.env := by rfl) :
    XS X b (.Assign [.Tuple [.Name x px, .Name y py] kt pt] (.Tuple [a, c] k2 pt2) pos) (sParL i j Tl Tc) := by
  obtain ⟨_, h1, h2⟩ := ha; obtain ⟨_, g1, g2⟩ := hcc
  refine ⟨_, ps_par hc hN hi hj hij hx hy (pa_cons h1 (pa_cons g1 pa_nil hs2) hs1) hw hs, fun {Fm F0 H0 F H σ γ} E n t D k => h2 _ n t _ fun p vs xs F1 H1 x1 hp hl hf r pp => g2 _ (n.to x1) pp _ fun v d F2 H2 x2 r2 qq => ?_⟩
  have nb : b.bag ≠ some p := n.ok.nb hp
  refine ⟨_, _, rfl, k.nx ((((n.to x1).to x2).setOwn i (x2.keep _ _ nb hl .lst) (r.mono x2.grow) (by rw [x2.new _ _ hl .lst]; exact hf) (n.ext.back n.ok0 hp) nb fun m a hm hq => ?_).set j r2) (qq p)⟩
  obtain ⟨u, h3⟩ := n.there hm
  rw [hq, hp] at h3
  cases h3
/-! tuple * int -/
def rRep01 (K : PySem.W.Frag) : R2 := fun x y H Q => ∃ l k xs, x = .ref l ∧ y = .int k ∧ SqT K H l xs ∧ xs ≠ [] ∧ ((k = 1 ∧ Q x H) ∨ (k = 0 ∧ ∀ p, H p = none → Q (.ref p) (upd H p (.tup []))))
theorem op_rep01 : OpR X (binaryOp .Mult) (rRep01 X.K) := by
  intro pins s σ H x y v u Q I rx ry h
  obtain ⟨l, k, xs, rfl, rfl, hT, hne, q⟩ := h
  have rx' := rx
  cases rx
  obtain ⟨t, rfl⟩ := ry
  obtain ⟨its, r, ⟨⟨cls, dd, data, sl⟩, ho, hc, n, hd⟩, hs⟩ := I.tuple hT
  simp only at hc hd
  subst hc hd
  have hle : its.length = xs.length := r.length.symm
  have hi : its.toArray.isEmpty = false := by
    cases its with
    | nil => exact absurd (List.eq_nil_of_length_eq_zero hle.symm) hne
    | cons a b => rfl
  rcases q with ⟨rfl, q⟩ | ⟨rfl, q⟩
  · refine wpAny_binaryOp_repeat_ref (T := "tuple") (U := "int") (by decide) ⟨_, ho, rfl⟩ (fun s' => typeIs_int s' 1 t) noFill_tuple_mul F.fills_int_mul F.slot_int_rmul repeat_tuple F.slot_int_index.lookup
      (call_meets F.slot_int_rmul (typeIs_int s 1 t) F.entry_int_rmul (F.args_int_rmul_2 _ _) (int_rmul_tuple 1 t l its.toArray n dd sl)
        ⟨ho, rfl, ⟨_, ho, rfl⟩, call_meets F.slot_tuple_mul ⟨_, ho, rfl⟩ F.entry_tuple_mul (F.args_tuple_mul_2 _ _) (TM.mul_one l its.toArray n dd sl t) ⟨ho, ?_⟩⟩)
    exact ⟨.ref l, _, I, rx', q⟩
  · refine wpAny_binaryOp_repeat_ref (T := "tuple") (U := "int") (by decide) ⟨_, ho, rfl⟩ (fun s' => typeIs_int s' 0 t) noFill_tuple_mul F.fills_int_mul F.slot_int_rmul repeat_tuple F.slot_int_index.lookup
      (call_meets F.slot_int_rmul (typeIs_int s 0 t) F.entry_int_rmul (F.args_int_rmul_2 _ _) (int_rmul_tuple 0 t l its.toArray n dd sl)
        ⟨ho, rfl, ⟨_, ho, rfl⟩, call_meets F.slot_tuple_mul ⟨_, ho, rfl⟩ F.entry_tuple_mul (F.args_tuple_mul_2 _ _) (TM.mul_nil l its.toArray n dd sl t hi) ⟨ho, ?_⟩⟩)
    refine ⟨.ref s.heap.objs.size, _, I.laid (t' := s.toks) (o := .tup []) (fun b ob q => Heap.get?_push_of_some _ q) (Nat.le_refl _) ?_, rfl, q _ (I.hok.fresh (Nat.le_refl _))⟩
    exact ⟨by rw [sizeLine_eq]; decide, [], .nil, IsTup.new _ _⟩
@[reducible] def vRepT (x y : Dt) (P : Dt → Prop) : Prop := match x, y with | .tup u, .int k => u ≠ [] ∧ u.length ≤ 1000 ∧ 0 ≤ k ∧ k ≤ 1000 ∧ P (.tup (List.replicate k.toNat u).flatten) | _, _ => False
theorem x_repT (ha : XE X b e1 Ta) (hb : XE X b e2 Tb) : XE X b (.BinOp e1 .Mult e2 pos) (d2 vRepT Ta Tb) := by
  obtain ⟨_, h1, h2⟩ := ha; obtain ⟨_, g1, g2⟩ := hb
  refine ⟨_, pe_op (op_rep01.or op_repT) h1 g1, de_op (fun {F H x y d e} P k r1 r2 t Q q => ?_) h2 g2⟩
  cases r1 <;> cases r2 <;> first | exact t.elim | skip
  rename_i a vs xs ha r z
  obtain ⟨t1, t2, t3, t4, t5⟩ := t
  have hne : vs ≠ [] := fun e => t1 (List.eq_nil_of_length_eq_zero (by rw [← r.length, e] <;> rfl))
  by_cases h1 : z = 1
  · subst h1
    refine .inl ⟨a, 1, vs, rfl, rfl, SqT.of (k.1 _ _ ha), hne, .inl ⟨rfl, q _ _ F H (Ext.refl k) (.tup ha r) ?_⟩⟩
    have : (List.replicate (Int.toNat 1) xs).flatten = xs := by show (List.replicate 1 xs).flatten = xs; simp
    rw [this] at t5
    exact t5
  by_cases h0 : z = 0
  · subst h0
    refine .inl ⟨a, 0, vs, rfl, rfl, SqT.of (k.1 _ _ ha), hne, .inr ⟨rfl, fun p hp => q _ _ _ _ (Ext.push k hp) (.tup upd_same .nil) t5⟩⟩
  · refine .inr ⟨a, z, vs, rfl, rfl, SqT.of (k.1 _ _ ha), hne, by omega, t4, by rw [r.length]; exact t2, fun p hp => q _ _ _ _ (Ext.push k hp) (.tup upd_same ?_) t5⟩
    exact (rep_rep r z.toNat).mono (Ext.push k hp).grow
/-! zip of two, each a tuple or a list, of one length -/
def sqP : Dt → Option (Bool × List Dt)
  | .lst xs => some (false, xs)
  | .tup xs => some (true, xs)
  | _ => none
theorem sqP_rep {F H : Hp} {v : V} {d : Dt} {t : Bool} {xs : List Dt} (s : Sub F H) (r : Rep b F v d) (h : sqP d = some (t, xs)) : ∃ a vs, v = .ref a ∧ SqB K H (t, a) vs ∧ RepL b F vs xs ∧ F a = some (if t = true then .tup vs else .lst vs) := by
  cases r with
  | lst e r =>
    cases h
    refine ⟨_, _, rfl, ?_, r, e⟩
    exact (show SqL K H _ _ from SqL.of (s _ _ e))
  | tup e r =>
    cases h
    exact ⟨_, _, rfl, SqB.T (SqT.of (s _ _ e)), r, e⟩
  | _ => cases h
@[reducible] def iZ2 (Ta : DAt) : DAt := fun γ P => Ta γ fun ds => match ds with
  | [.lst xs, .lst ys] => xs.length = ys.length ∧ P (zipD xs ys)
  | [.lst xs, .tup ys] => xs.length = ys.length ∧ P (zipD xs ys)
  | [.tup xs, .lst ys] => xs.length = ys.length ∧ P (zipD xs ys)
  | [.tup xs, .tup ys] => xs.length = ys.length ∧ P (zipD xs ys)
  | _ => False
theorem walkd_zip2 {t1 t2 : Bool} {a c : Addr} {vs ws : List V} {xs ys : List Dt} (h1 : Fx a = some (if t1 = true then .tup vs else .lst vs)) (h2 : Fx c = some (if t2 = true then .tup ws else .lst ws)) (r1 : RepL b Fx vs xs) (r2 : RepL b Fx ws ys) (hl : xs.length = ys.length) :
    WalkD b (ItN K [(t1, a), (t2, c)] [vs, ws] xs.length) Fx (zipD xs ys) := by
  have g : ∀ H, Sub Fx H → ∀ (j : Nat) (p : Bool × Addr) (us : List V), [(t1, a), (t2, c)][j]? = some p → [vs, ws][j]? = some us → SqB K H p us := fun H s j p us e1 e2 => by
    match j, e1, e2 with
    | 0, e1, e2 =>
      cases e1; cases e2
      have := s _ _ h1
      unfold SqB
      cases t1
      · exact SqL.of this
      · exact SqT.of this
    | 1, e1, e2 =>
      cases e1; cases e2
      have := s _ _ h2
      unfold SqB
      cases t2
      · exact SqL.of this
      · exact SqT.of this
    | j + 2, e1, _ => simp at e1
  have hz : (zipD xs ys).length = xs.length := by rw [zipD_len]; omega
  refine ⟨fun i H v H' => ∃ T, v = .ref T ∧ H T = none ∧ H' = upd H T (.tup ([vs, ws].map fun xs => xs.getD i .non)), ⟨fun i H hi s => ⟨by rw [hz] at hi; exact hi, g H s⟩, fun H s => ⟨by rw [hz]; exact Nat.le_refl _, g H s⟩, fun i H x H' _ _ y => y⟩, fun i H x H' hi y => ?_⟩
  rw [hz] at hi
  obtain ⟨T, e1, e2, e3⟩ := y
  obtain ⟨v, hv, rv⟩ := r1.get' (List.getElem?_eq_getElem hi)
  obtain ⟨w, hw, rw_⟩ := r2.get' (List.getElem?_eq_getElem (show i < ys.length by omega))
  refine ⟨.tup [xs[i], ys[i]], ?_, .inr ⟨T, [v, w], _, e1, e2, ?_, .cons rv (.cons rw_ .nil), rfl⟩⟩
  · unfold zipD
    rw [List.getElem?_zipWith, List.getElem?_eq_getElem hi, List.getElem?_eq_getElem (show i < ys.length by omega)]
  · rw [e3]
    show upd H T (.tup [vs.getD i .non, ws.getD i .non]) = _
    rw [List.getD_eq_getElem?_getD, List.getD_eq_getElem?_getD, hv, hw] <;> rfl
theorem i_zip2 {p : Pos} (hg : Gl X "zip") (hm : X.mg "zip" = none) (ha : XA X b [e1, e2] Ta) (hs : starEach [e1, e2] X.env = (false, eval e1 X.env) :: starEach [e2] X.env := by rfl) (hpl : (backTo pos (starEach [e2] X.env)).any (·.1) = false := by rfl) :
    XI X b tg (.Call (.Name "zip" p) [e1, e2] [] pos) (iZ2 Ta) := by
  obtain ⟨_, h1, h2⟩ := ha
  refine ⟨_, pi_zipM hg hm h1 hs hpl, fun P n t R q => h2 _ n t _ fun vs ds F1 H1 x1 r1 t1 => ?_⟩
  cases r1 with
  | nil => exact t1.elim
  | cons ra rb =>
    cases rb with
    | nil => cases ra <;> exact t1.elim
    | cons rb rc =>
      cases rc with
      | cons _ _ => cases ra <;> cases rb <;> exact t1.elim
      | nil =>
        rename_i v d w e
        have key : ∃ (t u : Bool) (xs ys : List Dt), sqP d = some (t, xs) ∧ sqP e = some (u, ys) ∧ xs.length = ys.length ∧ P (zipD xs ys) := by
          cases d <;> cases e <;> first | exact t1.elim | exact ⟨_, _, _, _, rfl, rfl, t1.1, t1.2⟩
        obtain ⟨t, u, xs, ys, hd, he, hl, p1⟩ := key
        obtain ⟨a, us, rfl, s1, k1, f1⟩ := sqP_rep (K := X.K) x1.sub ra hd
        obtain ⟨c, ws, rfl, s2, k2, f2⟩ := sqP_rep (K := X.K) x1.sub rb he
        refine ⟨[(t, a), (u, c)], [us, ws], xs.length, rfl, rfl, (by show 0 < 2; decide), (by show 2 ≤ 100000; decide), fun j zs ej => ?_, fun j p zs e1 e2 => ?_, q _ _ F1 H1 x1 (walkd_zip2 f1 f2 k1 k2 hl) p1⟩
        · match j, ej with
          | 0, ej => cases ej; exact k1.length
          | 1, ej => cases ej; rw [k2.length, hl]
          | j + 2, ej => simp at ej
        · match j, e1, e2 with
          | 0, e1, e2 => cases e1; cases e2; exact s1
          | 1, e1, e2 => cases e1; cases e2; exact s2
          | j + 2, e1, _ => simp at e1
end
end DL

namespace DL
open PySem PySem.Spec PyProof.Rows L2 ZN
/-! a list of one's own is lent to what hands back lists: told apart by their data -/
section
variable {b : Bg} {F H : Hp}
mutual
theorem rep_one : ∀ {d e : Dt} {v : V}, Rep b F v d → Rep b F v e → plain d = true → plain e = true → d = e
  | .non, e, v, r1, r2, _, p => by cases r1; cases r2; rfl
  | .bl _, e, v, r1, r2, _, p => by cases r1; cases r2; rfl
  | .int _, e, v, r1, r2, _, p => by cases r1; cases r2; rfl
  | .str _, e, v, r1, r2, _, p => by cases r1; cases r2; rfl
  | .lst xs, e, v, r1, r2, p, q => by
    cases r1 with
    | lst e1 k1 =>
      cases r2 with
      | lst e2 k2 =>
        rw [e1] at e2
        cases e2
        rw [repL_one k1 k2 p q]
      | tup e2 k2 => rw [e1] at e2; cases e2
      | _ => cases q
  | .tup xs, e, v, r1, r2, p, q => by
    cases r1 with
    | tup e1 k1 =>
      cases r2 with
      | tup e2 k2 =>
        rw [e1] at e2
        cases e2
        rw [repL_one k1 k2 p q]
      | lst e2 k2 => rw [e1] at e2; cases e2
      | _ => cases q
  | .ins _ _, e, v, r1, r2, p, q => by cases p
  | .dT _, e, v, r1, r2, p, q => by cases p
  | .dK _, e, v, r1, r2, p, q => by cases p
  | .ptr _, e, v, r1, r2, p, q => by cases p
  | .bag, e, v, r1, r2, p, q => by cases p
  | .exc _ _, e, v, r1, r2, p, q => by cases p
  | .lam _ _, e, v, r1, r2, p, q => by cases p
  | .clo _ _, e, v, r1, r2, p, q => by cases p
theorem repL_one : ∀ {ds es : List Dt} {vs : List V}, RepL b F vs ds → RepL b F vs es → plainL ds = true → plainL es = true → ds = es
  | [], es, vs, r1, r2, _, q => by cases r1; cases r2; rfl
  | d :: ds, es, vs, r1, r2, p, q => by
    cases r1 with
    | cons a1 k1 =>
      cases r2 with
      | cons a2 k2 =>
        have p2 := (Bool.and_eq_true _ _).mp (show (plain d && plainL ds) = true from p)
        rename_i e2 es2
        have q2 := (Bool.and_eq_true _ _).mp (show (plain e2 && plainL es2) = true from q)
        rw [rep_one a1 a2 p2.1 q2.1, repL_one k1 k2 p2.2 q2.2]
end
mutual
/-- the list xs stands nowhere within -/
def noLx (xs : List Dt) : Dt → Prop
  | .lst ys => ys ≠ xs ∧ noLxL xs ys
  | .tup ys => noLxL xs ys
  | .ins _ _ => False
  | .dT _ => False
  | .dK _ => False
  | _ => True
def noLxL (xs : List Dt) : List Dt → Prop
  | [] => True
  | y :: r => noLx xs y ∧ noLxL xs r
end
mutual
theorem rep_lessX {l : Addr} {us : List V} {xs : List Dt} (hl : F l = some (.lst us)) (hr : RepL b F us xs) (px : plainL xs = true) : ∀ {d : Dt} {v : V}, Rep b F v d → plain d = true → noLx xs d → Rep b (less F l) v d
  | .non, _, h, _, _ => by cases h; exact .non
  | .bl _, _, h, _, _ => by cases h; exact .bl _
  | .int _, _, h, _, _ => by cases h; exact .int _
  | .str _, _, h, _, _ => by cases h; exact .str _
  | .lst ys, _, h, p, q => by
    cases h with
    | lst e r =>
      have q' : ys ≠ xs ∧ noLxL xs ys := q
      refine .lst (by
        rw [less_ne fun z => ?_]
        · exact e
        · rw [z, hl] at e
          cases e
          exact q'.1 (repL_one r hr p px)) (repL_lessX hl hr px r p q'.2)
  | .tup ys, _, h, p, q => by
    cases h with
    | tup e r => exact .tup (by rw [less_ne (fun z => by rw [z, hl] at e; cases e)]; exact e) (repL_lessX hl hr px r p q)
  | .ins C fs, _, h, p, _ => by cases p
  | .dT kvs, _, h, p, _ => by cases p
  | .dK kvs, _, h, p, _ => by cases p
  | .ptr _, _, h, p, _ => by cases p
  | .bag, _, h, p, _ => by cases p
  | .exc _ _, _, h, p, _ => by cases p
  | .lam _ _, _, h, p, _ => by cases p
  | .clo _ _, _, h, p, _ => by cases p
theorem repL_lessX {l : Addr} {us : List V} {xs : List Dt} (hl : F l = some (.lst us)) (hr : RepL b F us xs) (px : plainL xs = true) : ∀ {ds : List Dt} {vs : List V}, RepL b F vs ds → plainL ds = true → noLxL xs ds → RepL b (less F l) vs ds
  | [], _, h, _, _ => by cases h; exact .nil
  | d :: ds, _, h, p, q => by
    cases h with
    | cons r t =>
      have p2 := (Bool.and_eq_true _ _).mp (show (plain d && plainL ds) = true from p)
      have q2 : noLx xs d ∧ noLxL xs ds := q
      exact .cons (rep_lessX hl hr px r p2.1 q2.1) (repL_lessX hl hr px t p2.2 q2.2)
end
end
/-- d has not the list xs within it -/
def sepD (xs : List Dt) (d : Dt) : Prop := noLst d = true ∨ (plain d = true ∧ plainL xs = true ∧ noLx xs d)
@[reducible] def dLendX (i : Nat) (T : DT) : DT := fun γ P => match gat γ i with
  | .own _ xs => T (gset γ i (.val (.lst xs))) fun d => sepD xs d ∧ P d
  | .obj _ o => objK o = true ∧ T (gset γ i (.val o)) fun d => noObj d = true ∧ P d
  | .val _ => T γ P
  | _ => False
section
variable {X : Cx} {b : Bg} {e : Expr}
theorem de_lendX {te : TE} {T : DT} (i : Nat) (h : DE b te T) : DE b te (dLendX i T) := fun {Fm F0 H0 F H σ γ} P n t Q q => by
  unfold dLendX at t
  cases e : gat γ i with
  | un => rw [e] at t; exact t.elim
  | val d => rw [e] at t; exact h _ n t Q q
  | own l xs =>
    rw [e] at t
    have hi := n.slot i
    rw [e] at hi
    obtain ⟨vs, h1, h2, h3, h4, h5, h6⟩ := hi
    obtain ⟨nl, core⟩ := lend_coreG n (d := .lst xs) (by rw [e]; rfl) h1 h2 (.lst h3) h4 h5 h6
    refine h _ nl t Q fun v d F' H' y r p => q v d (less F' l) H' (core F' H' y).2 ?_ p.2
    rcases p.1 with z | ⟨z1, z2, z3⟩
    · exact rep_less (core F' H' y).1 r z
    · refine rep_lessX (core F' H' y).1 (RepL.mono (fun a o z => ?_) h3) z2 r z1 z3
      exact y.grow _ _ (by rw [upd_ne (ne_of_none z h4)]; exact z)
  | obj l o =>
    rw [e] at t
    have hi := n.slot i
    rw [e] at hi
    obtain ⟨u, h1, h2, h3, h4, h5, h6⟩ := hi
    obtain ⟨nl, core⟩ := lend_coreG n (d := o) (by rw [e]; rfl) h1 h2 h3 h4 h5 h6
    obtain ⟨k1, k2⟩ := h3.kind t.1
    exact h _ nl t.2 Q fun v d F' H' y r p => q v d (less F' l) H' (core F' H' y).2 (rep_lessO (core F' H' y).1 k1 k2 r p.1) p.2
  | hid l d => rw [e] at t; exact t.elim
theorem x_lendX (i : Nat) (h : XE X b e T) : XE X b e (dLendX i T) := by
  obtain ⟨_, h1, h2⟩ := h
  exact ⟨_, h1, de_lendX i h2⟩
end
end DL

namespace DL
open PySem PySem.Spec PyProof.Rows L2 ZN
/-! a name that holds a list or a tuple, walked -/
section
variable {X : Cx} {b : Bg} {tg : Expr}
@[reducible] def iSV (i : Nat) : DAt := fun γ P => match gat γ i with | .val (.lst xs) => P xs | .val (.tup xs) => P xs | _ => False
theorem i_seq (i : Nat) {x : Str} {pos : Pos} (hN : X.N[i]? = some x := by rfl) (hv : Vis X.env.scope x := by first | exact Or.inl rfl | exact Or.inr (Or.inl rfl) | exact Or.inr (Or.inr rfl)) (hd : (x == ("__debug__" : Str)) = false := by decide)
    (hcd : (x == ("__classdict__" : Str)) = false := by decide) : XI X b tg (.Name x pos) (iSV i) := by
  obtain ⟨_, p1, d1⟩ := i_list (X := X) (b := b) (tg := tg) (xv i (pos := pos) hN hv hd hcd)
  obtain ⟨_, p2, d2⟩ := i_tup (X := X) (b := b) (tg := tg) (xv i (pos := pos) hN hv hd hcd)
  refine ⟨_, ⟨fun pins s σ H R I h => Or.elim h (fun h => p1.run pins s σ H R I h) (fun h => p2.run pins s σ H R I h)⟩, fun {Fm F0 H0 F H σ γ} P n t R q => ?_⟩
  unfold iSV at t
  cases e : gat γ i with
  | val d =>
    rw [e] at t
    cases d with
    | lst xs => exact .inl (d1 P n (show dVar i γ _ by unfold dVar; rw [e]; exact t) R q)
    | tup xs => exact .inr (d2 P n (show dVar i γ _ by unfold dVar; rw [e]; exact t) R q)
    | _ => exact t.elim
  | _ => rw [e] at t; exact t.elim
end
/-! words for comprehensions over typed items -/
section
variable {α β : Type} {xs : List Dt} {as : List α} {g : α → Dt} {Tg : Dt → Gm → (Gm → Prop) → Prop} {Tt : DBt} {Te : DT} {γw : Gm} {P : List Dt → Prop}
theorem getg {i : Nat} {d : Dt} (hx : xs = as.map g) (h : xs[i]? = some d) : ∃ a, as[i]? = some a ∧ d = g a := by
  rw [hx, List.getElem?_map] at h
  cases e : as[i]? with
  | none => rw [e] at h; cases h
  | some a => rw [e] at h; exact ⟨a, rfl, (Option.some.inj h).symm⟩
/-- f of each item -/
theorem wd_map {f : α → Dt} (hx : xs = as.map g) (step : ∀ (i : Nat) (a : α), as[i]? = some a → ∀ Q : Dt → Prop, Q (f a) → Tg (g a) γw fun γ2 => Te γ2 Q) (rest : P (as.map f)) :
    Word (∃ Iv : Nat → List Dt → Prop, Iv 0 [] ∧ (∀ i d acc, xs[i]? = some d → acc.length ≤ i → Iv i acc → Tg d γw fun γ2 => (fun (_ : Gm) (P : Bool → Prop) => P true) γ2 fun c => (match c with | true => Te γ2 fun y => Iv (i + 1) (acc ++ [y]) | false => Iv (i + 1) acc)) ∧ ∀ acc, acc.length ≤ xs.length → Iv xs.length acc → P acc) := by
  refine ⟨fun i acc => acc = (as.take i).map f, rfl, fun i d acc hd _ ha => ?_, fun acc _ ha => ?_⟩
  · obtain ⟨a, ea, rfl⟩ := getg hx hd
    refine step i a ea (fun y => acc ++ [y] = (as.take (i + 1)).map f) ?_
    show acc ++ [f a] = _
    rw [ha, List.take_add_one, ea, List.map_append] <;> rfl
  · rw [hx, List.length_map, List.take_length] at ha
    rw [ha]
    exact rest
/-- the items that pass, f of each -/
theorem wd_filter {f : α → Dt} {p : α → Bool} (hx : xs = as.map g) (step : ∀ (i : Nat) (a : α), as[i]? = some a → ∀ (Q : Dt → Prop) (R : Prop), (p a = true → Q (f a)) → (p a = false → R) → Tg (g a) γw fun γ2 => Tt γ2 fun c => (match c with | true => Te γ2 Q | false => R)) (rest : P ((as.filter p).map f)) :
    Word (∃ Iv : Nat → List Dt → Prop, Iv 0 [] ∧ (∀ i d acc, xs[i]? = some d → acc.length ≤ i → Iv i acc → Tg d γw fun γ2 => Tt γ2 fun c => (match c with | true => Te γ2 fun y => Iv (i + 1) (acc ++ [y]) | false => Iv (i + 1) acc)) ∧ ∀ acc, acc.length ≤ xs.length → Iv xs.length acc → P acc) := by
  refine ⟨fun i acc => acc = ((as.take i).filter p).map f, rfl, fun i d acc hd _ ha => ?_, fun acc _ ha => ?_⟩
  · obtain ⟨a, ea, rfl⟩ := getg hx hd
    refine step i a ea (fun y => acc ++ [y] = ((as.take (i + 1)).filter p).map f) _ (fun h => ?_) (fun h => ?_)
    · show acc ++ [f a] = _
      rw [ha, List.take_add_one, ea, List.filter_append, List.map_append]
      simp [h]
    · show acc = _
      rw [ha, List.take_add_one, ea, List.filter_append, List.map_append]
      simp [h]
  · rw [hx, List.length_map, List.take_length] at ha
    rw [ha]
    exact rest
/-- each item gives something of which p tells -/
theorem wd_any {h : β → Dt} {p : Nat → α → β → Prop} (hx : xs = as.map g) (step : ∀ (i : Nat) (a : α), as[i]? = some a → ∀ Q : Dt → Prop, (∀ b, p i a b → Q (h b)) → Tg (g a) γw fun γ2 => Te γ2 Q)
    (rest : ∀ bs : List β, bs.length = as.length → (∀ i a b, as[i]? = some a → bs[i]? = some b → p i a b) → P (bs.map h)) :
    Word (∃ Iv : Nat → List Dt → Prop, Iv 0 [] ∧ (∀ i d acc, xs[i]? = some d → acc.length ≤ i → Iv i acc → Tg d γw fun γ2 => (fun (_ : Gm) (P : Bool → Prop) => P true) γ2 fun c => (match c with | true => Te γ2 fun y => Iv (i + 1) (acc ++ [y]) | false => Iv (i + 1) acc)) ∧ ∀ acc, acc.length ≤ xs.length → Iv xs.length acc → P acc) := by
  refine ⟨fun i acc => ∃ bs : List β, acc = bs.map h ∧ bs.length = i ∧ ∀ j a b, as[j]? = some a → bs[j]? = some b → p j a b, ⟨[], rfl, rfl, fun j a b _ e => by simp at e⟩, fun i d acc hd _ ha => ?_, fun acc _ ha => ?_⟩
  · obtain ⟨a, ea, rfl⟩ := getg hx hd
    obtain ⟨bs, rfl, hl, hp⟩ := ha
    refine step i a ea _ fun b hb => ⟨bs ++ [b], by rw [List.map_append] <;> rfl, by rw [List.length_append, hl] <;> rfl, fun j a' b' e1 e2 => ?_⟩
    by_cases hj : j < bs.length
    · rw [List.getElem?_append_left hj] at e2
      exact hp j a' b' e1 e2
    · rw [List.getElem?_append_right (by omega)] at e2
      have hj2 : j = i := by
        have := (List.getElem?_eq_some_iff.mp e2).1
        simp at this
        omega
      subst hj2
      rw [hl, Nat.sub_self] at e2
      rw [ea] at e1
      cases e1
      cases e2
      exact hb
  · obtain ⟨bs, rfl, hl, hp⟩ := ha
    rw [hx, List.length_map] at hl
    exact rest bs hl hp
theorem all_of {γ : Type} {as : List γ} {p : γ → Bool} {P : Dt → Prop} (h : P (.bl (as.all p))) : ∃ ns : List Bool, [Dt.lst (as.map fun a => Dt.bl (p a))] = [.lst (ns.map Dt.bl)] ∧ P (.bl (ns.all id)) :=
  ⟨as.map p, by rw [List.map_map] <;> rfl, by rw [List.all_map]; exact h⟩
theorem any_of {γ : Type} {as : List γ} {p : γ → Bool} {P : Dt → Prop} (h : P (.bl (as.any p))) : ∃ ns : List Bool, [Dt.lst (as.map fun a => Dt.bl (p a))] = [.lst (ns.map Dt.bl)] ∧ P (.bl (ns.any id)) :=
  ⟨as.map p, by rw [List.map_map] <;> rfl, by rw [List.any_map]; exact h⟩
theorem sum_of {γ : Type} {as : List γ} {p : γ → Int} {P : Dt → Prop} (h : P (.int (as.map p).sum)) : ∃ ns : List Int, [Dt.lst (as.map fun a => Dt.int (p a))] = [.lst (ns.map Dt.int)] ∧ P (.int ns.sum) :=
  ⟨as.map p, by rw [List.map_map] <;> rfl, h⟩
/-! the items of what is walked, typed -/
theorem rngD_map (lo : Int) (n : Nat) : rngD lo n = (List.range n).map fun i => Dt.int (lo + (i : Nat)) := rfl
theorem zipD_map {α β : Type} {as : List α} {bs : List β} {g : α → Dt} {h : β → Dt} : zipD (as.map g) (bs.map h) = (as.zip bs).map fun p => .tup [g p.1, h p.2] := by
  unfold zipD
  rw [List.zipWith_map, List.zip, List.map_zipWith]
theorem enumD_map {α : Type} {as : List α} {g : α → Dt} : enumD (as.map g) = as.zipIdx.map fun p => .tup [.int (p.2 : Nat), g p.1] := by
  unfold enumD
  apply List.ext_getElem?
  intro i
  rw [List.getElem?_mapIdx, List.getElem?_map, List.getElem?_map, List.getElem?_zipIdx]
  cases as[i]? with
  | none => rfl
  | some a => simp
theorem for_of {Iv : Nat → Gm → Prop} {Tb : DSt} {N : Gm → Prop} {Rt : Gm → Dt → Prop} {γ : Gm} (hx : xs = as.map g) (h0 : Iv 0 γ)
    (step : ∀ i a γ', as[i]? = some a → Iv i γ' → Tg (g a) γ' fun γ2 => Tb { nx := Iv (i + 1), rt := Rt, bk := N, ct := Iv (i + 1) } γ2) (rest : ∀ γ', Iv as.length γ' → N γ') :
    Word (∃ Iv : Nat → Gm → Prop, Iv 0 γ ∧ (∀ i d γ', xs[i]? = some d → Iv i γ' → Tg d γ' fun γ2 => Tb { nx := Iv (i + 1), rt := Rt, bk := N, ct := Iv (i + 1) } γ2) ∧ ∀ γ', Iv xs.length γ' → N γ') := by
  refine ⟨Iv, h0, fun i d γ' hd hi => ?_, fun γ' hi => ?_⟩
  · obtain ⟨a, ea, rfl⟩ := getg hx hd
    exact step i a γ' ea hi
  · rw [hx, List.length_map] at hi
    exact rest γ' hi
end
end DL

namespace DL
open PySem PySem.Spec PyProof.Rows L2 ZN
section
variable {X : Cx} {b : Bg} {e : Expr} {pos : Pos}
/-! tests with a list of one's own, lent or given away before -/
@[reducible] def bLendX (i : Nat) (T : DBt) : DBt := fun γ P => match gat γ i with
  | .own _ xs => T (gset γ i (.val (.lst xs))) P
  | .obj _ o => T (gset γ i (.val o)) P
  | .val _ => T γ P
  | _ => False
theorem t_lendX (i : Nat) (h : XT X b e T) : XT X b e (bLendX i T) := by
  obtain ⟨_, h1, h2⟩ := h
  refine ⟨_, h1, fun {Fm F0 H0 F H σ γ} P n t Q q => ?_⟩
  have g : DB b _ (bLend i T) := db_lend i h2
  unfold bLendX at t
  cases e : gat γ i with
  | un => rw [e] at t; exact t.elim
  | hid l d => rw [e] at t; exact t.elim
  | val d => rw [e] at t; exact h2 _ n t Q q
  | own l xs => exact g P n (show bLend i T γ P by unfold bLend; rw [e] at t ⊢; exact t) Q q
  | obj l o => exact g P n (show bLend i T γ P by unfold bLend; rw [e] at t ⊢; exact t) Q q
/-! x, y = [..], e by a tuple: the list stays one's own -/
theorem s_parLc {i j : Nat} {x y : Str} {a c : Expr} {px py pt : Pos} {kt k2 pt2} (hc : X.calm = true) (hN : X.N.Nodup) (hi : X.N[i]? = some x) (hj : X.N[j]? = some y)
    (hx : Loc X.env.scope x) (hy : Loc X.env.scope y) (ha : XL X b a Tl) (hcc : XE X b c Tc)
    (hfx : X.fn x = true ∨ X.env.scope.names.lookup x = some .local := by first | exact .inl rfl | exact .inr rfl | assumption) (hfy : X.fn y = true ∨ X.env.scope.names.lookup y = some .local := by first | exact .inl rfl | exact .inr rfl | assumption)
    (hw : swappedStores [.Tuple [.Name x px, .Name y py] kt pt] (.Tuple [a, c] k2 pt2) X.env = pure none := by rfl)
    (hs : swapsWithSole [.Tuple [.Name x px, .Name y py] kt pt] (.Tuple [a, c] k2 pt2) pos.line X.env = pure false := by rfl)
    (hh : (assignEach [.Tuple [.Name x px, .Name y py] kt pt] X.env).map (·.2) = [assign (.Tuple [.Name x px, .Name y py] kt pt) X.env] := by rfl)
    (hn : (assignEach [.Name x px, .Name y py] X.env).length = 2 := by rfl) (hst : (assignEach [.Name x px, .Name y py] X.env).findIdx? (·.1) = none := by rfl)
    (hs0 : (assignEach (.Name x px :: [.Name y py]) X.env).map (·.2) = assign (.Name x px) X.env :: (assignEach [.Name y py] X.env).map (·.2) := by rfl)
    (hs00 : (assignEach (.Name y py :: []) X.env).map (·.2) = assign (.Name y py) X.env :: (assignEach [] X.env).map (·.2) := by rfl)
    (hs1 : starEach [a, c] X.env = (false, eval a X.env) :: starEach [c] X.env := by rfl) (hs2 : starEach [c] X.env = (false, eval c X.env) :: starEach [] X.env := by rfl) :
    XS X b (.Assign [.Tuple [.Name x px, .Name y py] kt pt] (.Tuple [a, c] k2 pt2) pos) (sParL i j Tl Tc) := by
  obtain ⟨_, h1, h2⟩ := ha; obtain ⟨_, g1, g2⟩ := hcc
  refine ⟨_, ps_asg (pe_tup (pa_cons h1 (pa_cons g1 pa_nil hs2) hs1)) (pg_tup hc (pgs_cons (pg_name (i := i) hN hi hx hfx) (pgs_cons (pg_name (i := j) hN hj hy hfy) pgs_nil hs00) hs0) hn hst) hs hw hh,
    fun {Fm F0 H0 F H σ γ} E n t D k => h2 _ n t _ fun p vs xs F1 H1 x1 hp hl hf r pp => g2 _ (n.to x1) pp _ fun v d F2 H2 x2 r2 qq => ?_⟩
  refine ⟨by show 2 ≤ sizeLine; decide, fun t ht => ?_⟩
  have nb : b.bag ≠ some p := n.ok.nb hp
  have hl2 : H2 p = some (.lst vs) := x2.keep _ _ nb hl .lst
  have x3 : Ext b F2 H2 F2 (upd H2 t (.tup [.ref p, v])) := Ext.laid x2.ok ht
  have hl3 : upd H2 t (.tup [.ref p, v]) p = some (.lst vs) := by rw [upd_ne (ne_of_none hl2 ht)]; exact hl2
  refine ⟨t, [.ref p, v], rfl, SqT.of upd_same, rfl, _, _, rfl, _, _, rfl, rfl, ?_⟩
  refine k.nx (((((n.to x1).to x2).to x3).setOwn i hl3 (r.mono x2.grow) (by rw [x2.new _ _ hl .lst]; exact hf) (n.ext.back n.ok0 hp) nb fun m a hm hq => ?_).set j (x3.mono r2)) (qq p)
  obtain ⟨u, h3⟩ := n.there hm
  rw [hq, hp] at h3
  cases h3
end
end DL

namespace DL
open PySem PySem.Spec PyProof.Rows L2 ZN
/-! data: plain, not deep, of sane sizes -/
theorem plainL_all : ∀ xs : List Dt, plainL xs = xs.all plain
  | [] => rfl
  | x :: xs => by
    show (plain x && plainL xs) = _
    rw [plainL_all xs] <;> rfl
theorem plain_lst (xs : List Dt) : plain (.lst xs) = xs.all plain := plainL_all xs
theorem plain_tup (xs : List Dt) : plain (.tup xs) = xs.all plain := plainL_all xs
theorem plain_int (i : Int) : plain (.int i) = true := rfl
theorem plain_str (i : Str) : plain (.str i) = true := rfl
theorem plain_bl (i : Bool) : plain (.bl i) = true := rfl
theorem plain_non : plain .non = true := rfl
theorem okSL_all : ∀ xs : List Dt, okSL xs = xs.all okS
  | [] => rfl
  | x :: xs => by
    show (okS x && okSL xs) = _
    rw [okSL_all xs] <;> rfl
theorem okS_lst (xs : List Dt) : okS (.lst xs) = (decide (xs.length ≤ 100000) && xs.all okS) := by rw [← okSL_all] <;> rfl
theorem okS_tup (xs : List Dt) : okS (.tup xs) = (decide (xs.length ≤ 100000) && xs.all okS) := by rw [← okSL_all] <;> rfl
theorem okS_int (i : Int) : okS (.int i) = true := rfl
theorem okS_str (i : Str) : okS (.str i) = true := rfl
theorem okS_bl (i : Bool) : okS (.bl i) = true := rfl
theorem okS_non : okS .non = true := rfl
theorem depL_le : ∀ {xs : List Dt} {n : Nat}, depL xs ≤ n ↔ ∀ x ∈ xs, dep x ≤ n
  | [], n => ⟨fun _ x hx => (by cases hx), fun _ => Nat.zero_le _⟩
  | x :: xs, n => by
    show max (dep x) (depL xs) ≤ n ↔ _
    rw [Nat.max_le, depL_le (xs := xs)]
    constructor
    · rintro ⟨a, c⟩ y hy
      rcases List.mem_cons.mp hy with e | hy
      · rw [e]; exact a
      · exact c y hy
    · exact fun h => ⟨h x List.mem_cons_self, fun y hy => h y (List.mem_cons_of_mem _ hy)⟩
theorem dep_lst {xs : List Dt} {n : Nat} : dep (.lst xs) ≤ n + 1 ↔ ∀ x ∈ xs, dep x ≤ n := by
  show depL xs + 1 ≤ n + 1 ↔ _
  rw [← depL_le]
  omega
theorem dep_tup {xs : List Dt} {n : Nat} : dep (.tup xs) ≤ n + 1 ↔ ∀ x ∈ xs, dep x ≤ n := by
  show depL xs + 1 ≤ n + 1 ↔ _
  rw [← depL_le]
  omega
theorem dep_int (i : Int) : dep (.int i) = 1 := by unfold dep; rfl
theorem dep_str (i : Str) : dep (.str i) = 1 := by unfold dep; rfl
theorem dep_bl (i : Bool) : dep (.bl i) = 1 := by unfold dep; rfl
theorem dep_non : dep .non = 1 := by unfold dep; rfl
mutual
/-- data that may be compared -/
def cmpOk : Dt → Bool
  | .lst xs => cmpOkL xs
  | .tup xs => cmpOkL xs
  | .str x => PyData.canLay0 (.str x)
  | .ins _ _ => false
  | .dT _ => false
  | .dK _ => false
  | .ptr _ => false
  | .bag => false
  | .exc _ _ => false
  | .lam _ _ => false
  | .clo _ _ => false
  | _ => true
def cmpOkL : List Dt → Bool
  | [] => true
  | x :: xs => cmpOk x && cmpOkL xs
end
theorem cmpOkL_all : ∀ xs : List Dt, cmpOkL xs = xs.all cmpOk
  | [] => rfl
  | x :: xs => by
    show (cmpOk x && cmpOkL xs) = _
    rw [cmpOkL_all xs] <;> rfl
theorem cmp_lst (xs : List Dt) : cmpOk (.lst xs) = xs.all cmpOk := cmpOkL_all xs
theorem cmp_tup (xs : List Dt) : cmpOk (.tup xs) = xs.all cmpOk := cmpOkL_all xs
theorem cmp_int (i : Int) : cmpOk (.int i) = true := rfl
theorem cmp_bl (i : Bool) : cmpOk (.bl i) = true := rfl
theorem cmp_non : cmpOk .non = true := rfl
theorem cmp_str (x : Str) : cmpOk (.str x) = PyData.canLay0 (.str x) := rfl
mutual
theorem cmp_lay : ∀ d : Dt, cmpOk d = true → plain d = true ∧ PyData.canLay0 (py d) = true ∧ PyData.depth (py d) ≤ dep d
  | .non, _ => ⟨rfl, rfl, Nat.zero_le _⟩
  | .bl k, _ => ⟨rfl, rfl, Nat.zero_le _⟩
  | .int i, _ => ⟨rfl, rfl, Nat.zero_le _⟩
  | .str x, h => ⟨rfl, h, Nat.zero_le _⟩
  | .lst xs, h => by
    obtain ⟨h0, h1, h2⟩ := cmp_layL xs h
    exact ⟨h0, h1, Nat.succ_le_succ h2⟩
  | .tup xs, h => by
    obtain ⟨h0, h1, h2⟩ := cmp_layL xs h
    exact ⟨h0, h1, Nat.succ_le_succ h2⟩
  | .ins _ _, h => by cases h
  | .dT _, h => by cases h
  | .dK _, h => by cases h
  | .ptr _, h => by cases h
  | .bag, h => by cases h
  | .exc _ _, h => by cases h
  | .lam _ _, h => by cases h
  | .clo _ _, h => by cases h
theorem cmp_layL : ∀ ds : List Dt, cmpOkL ds = true → plainL ds = true ∧ PyData.canLayAll0 (pyL ds) = true ∧ PyData.depthAll (pyL ds) ≤ depL ds
  | [], _ => ⟨rfl, rfl, Nat.le_refl _⟩
  | d :: ds, h => by
    have h' := (Bool.and_eq_true _ _).mp (show (cmpOk d && cmpOkL ds) = true from h)
    obtain ⟨a0, a1, a2⟩ := cmp_lay d h'.1
    obtain ⟨c0, c1, c2⟩ := cmp_layL ds h'.2
    refine ⟨?_, ?_, ?_⟩
    · show (plain d && plainL ds) = true
      rw [a0, c0] <;> rfl
    · show (PyData.canLay0 (py d) && PyData.canLayAll0 (pyL ds)) = true
      rw [a1, c1] <;> rfl
    · show max (PyData.depth (py d)) (PyData.depthAll (pyL ds)) ≤ max (dep d) (depL ds)
      omega
end
theorem eqOk_of {d : Dt} {n : Nat} (h : cmpOk d = true) (k : dep d ≤ n) (hn : n ≤ 64 := by decide) : eqOk d = true := by
  obtain ⟨h1, h2, h3⟩ := cmp_lay d h
  show (plain d && (PyData.canLay0 (py d) && decide (PyData.depth (py d) ≤ 64))) = true
  rw [h1, h2, decide_eq_true (by omega)] <;> rfl
theorem eqv_same {d : Dt} (h : cmpOk d = true) : PyData.eqv (py d) (py d) = true := SeqAt.eqv_refl _ (cmp_lay d h).2.1
end DL

/-! {(k, ..): v for .. in ..}: a dict whose keys are tuples. -/
namespace DcT
open PySem PySem.Spec PyProof.Rows L2
section
variable {X : Cx}
/-- one store of the comprehension -/
theorem put_t {pins : List (Addr × Obj)} {σ : L2.St} {H : Hp} {s : Shared} {E : Value → Shared → Prop} {D p : Addr} {kvs : List (List Key × V)} {k : List Key} {v : V} {r : Value} {Q : Unit → Shared → Prop} (hu : X.A.units + 1 < cLine) (I : Inv X pins σ H s) (hD : H D = some (.dT kvs)) (hp : H p = some (.tup (k.map kV)))
    (hl : kvs.length < sizeLine) (rv : RelV v r) (h : ∀ s', Inv X pins σ (upd H D (.dT (putK kvs k v))) s' → Q () s') : wpAny (model X.prog X.w) X.A (dictSet D (.ref p) r) Q E s := by
  obtain ⟨z, nd, xs, rel, dd⟩ := dt_of I.hok hD
  have hz : xs.length ≤ sizeLine := by rw [← Paired.length rel]; exact z
  have hl2 : (putK kvs k v).length ≤ sizeLine := Nat.le_trans (length_putK kvs k v) hl
  refine wpAny_dictSet_heap (hsz := hz) (show X.A.units < cLine by omega) (key_of I.hok hp) dd fun h' dd' hs => h _ ?_
  obtain ⟨q, es, ep, hq, h2, h3, h4, _, h5⟩ := dd'
  refine d_write I (by rw [hD]; exact True.intro) hs ⟨q, hq⟩ ⟨hl2, nd, _, (rel.put k hp rv).keeps fun c ys ec => ?_, q, es, ep, hq, h2, h3, h4, h5⟩
  rw [upd_ne (ne_of ec hD (fun z => nomatch z))]
  exact ec
/-- the reading: D the new dict, p where a turn's key stands -/
def tDt (wi : TI) (g : TG) (tt : TT) (tk tv : TE) (vs : List Nat) : TE := fun σ H Q => wi σ H fun J H1 => ∀ D, H1 D = none → ∃ W : Nat → Nat → Hp → Prop, (∃ m, W 0 m (upd H1 D (.dT []))) ∧ ∀ i m Hi, W i m Hi →
  (J.stop i Hi ∧ Q (.ref D) Hi) ∨ (J.go i Hi ∧ ∃ Nx : Hp → Prop, (∀ Hn, Nx Hn → ∃ m', m' < m ∧ W (i + 1) m' Hn) ∧ ∀ x Hy, J.yld i Hi x Hy → g x (wipe σ vs) Hy fun σ2 H2 => wipe σ2 vs = wipe σ vs ∧ tt σ2 H2 fun c H3 =>
    if c = true then tk σ2 H3 fun y H4 => tv σ2 H4 fun z H5 => ∃ kvs k p, y = .ref p ∧ H5 p = some (.tup (k.map kV)) ∧ H5 D = some (.dT kvs) ∧ kvs.length < sizeLine ∧ Nx (upd H5 D (.dT (putK kvs k z))) else Nx H3)
theorem pe_dt {kx vx tg iter : Expr} {ifs : List Expr} {scope : Scope} {own : List (Str × Nat)} {pos : Pos} {wi : TI} {g : TG} {tt : TT} {tk tv : TE} (hc : X.calm = true) (hN : X.N.Nodup) (hu : X.A.units + 1 < cLine) (hi : PI X tg iter wi) (ok : BlkOk X.N X.env.scope scope own)
    (hg : ∀ i : DL.Bix, PG (DL.Cx.blkI X scope i) tg g) (ht : ∀ i : DL.Bix, PTs (DL.Cx.blkI X scope i) ifs tt) (hk : ∀ i : DL.Bix, PE (DL.Cx.blkI X scope i) kx tk) (hv : ∀ i : DL.Bix, PE (DL.Cx.blkI X scope i) vx tv)
    (hs : ∀ x, foldedSetIterable iter X.env x = pure x := by intro _; rfl) : PE X (.DictComp kx vx [⟨tg, iter, ifs, 0⟩] scope pos) (tDt wi g tt tk tv (own.map (·.2))) := by
  constructor
  intro pins s σ H Q I h
  rw [arm_eval_DictComp]
  have closed : ∀ y ∈ scope.names, y.2 = .free → ∃ c, X.env.cells.lookup y.1 = some c := fun y hy e => (ok.free y hy e).elim (fun k => I.ok.has _ (Or.inl k)) (fun k => I.ok.has _ (Or.inr k))
  have single : ∀ y ∈ scope.names, y.2 = .local → scope.names.lookup y.1 = some .local := fun y hy e => (ok.uniq y hy).trans (congrArg some e)
  refine wpAny_comprehension_free rfl hs (closure_ok closed) ok.kind single (thn (hi.run pins s σ H _ I h) fun _ _ a => thn a fun _ sI b => ?_)
  obtain ⟨it, fp, tn, J, HI, rfl, II, T, tI, fI, q⟩ := b
  refine (wpAny_newObj_type (newEnv_comp ?_))
  -- the dict, and what stands when the block begins
  let D := sI.heap.objs.size
  have dN : HI D = none := II.hok.fresh (Nat.le_refl _)
  obtain ⟨W, ⟨m0, w0⟩, turn⟩ := q D dN
  let hD := sI.heap.push { cls := .type "dict", data := .dict #[] }
  let sD : Shared := { sI with heap := hD }
  let HD := upd HI D (.dT [])
  have push : ∀ c o, sI.heap.get? c = some o → hD.get? c = some o := fun c o e => Heap.get?_push_of_some _ e
  have ID : Inv X pins σ HD sD := II.laid (t' := sI.toks) push (Nat.le_refl _) (dt_empty sI.heap II.big)
  have low : ∀ c ∈ fp, c < D := fun c hc => by
    obtain ⟨o, e, _⟩ := T.obj _ _ tI c hc
    exact Heap.lt_size e
  have fD : ∀ c ∈ fp, FpOk X pins HD c ∧ c < sD.heap.objs.size := fun c hc => ⟨⟨(upd_ne (Nat.ne_of_lt (low c hc))).trans (fI c hc).1, (fI c hc).2⟩, by
    show c < hD.objs.size
    rw [Heap.size_push]
    exact Nat.lt_succ_of_lt (low c hc)⟩
  let L := sD.heap.objs.size
  let cl := cellsFrom (L + 1) scope.names (cloFrom X.env.cells scope.names [])
  let bx : DL.Bix := (sD, HD, L, cl, fp)
  let Y := DL.Cx.blkI X scope bx
  have IB := block_start ID ok hN fD
  let sB : Shared := { sD with heap := pushCells (sD.heap.push { cls := .type "dict", data := .dict #[] }) scope.names }
  have tB : tn 0 sB.heap := T.keep _ _ _ tI fun c _ o e => pushCells_keeps _ _ _ _ (Heap.get?_push_of_some _ (push c o e))
  have still : ∀ {σ' : L2.St} {H' : Hp} {s' : Shared}, Inv Y [] σ' H' s' → (∀ c ∈ fp, H' c = none) → ∀ c ∈ fp, FpOk Y [] H' c := fun {_ _ _} J' hn c hc => ⟨hn c hc, (J'.ok.exf c hc).1, J'.ok.exfs c hc, Or.inl hc, fun x d e => (J'.ok.exf c hc).2 x d e, fun p hp => by
    have hp' : p ∈ ([] : List (Addr × Obj)) ++ [] := hp
    cases hp'⟩
  have loop : codeAny (model X.prog X.w) X.A (.compLoop (.DictComp kx vx [⟨tg, iter, ifs, 0⟩] scope pos) 0 (.ref it) (.ref D) (compEnvC scope cl L X.env)) (compPost (model X.prog X.w) X.A X.xe none (EP X pins σ Q) (.ref D) L) sB := by
    refine compLoop_anyD (fun m s' => ∃ i Hi, Inv Y [] (wipe σ (own.map (·.2))) Hi s' ∧ tn i s'.heap ∧ (∀ c ∈ fp, Hi c = none) ∧ W i m Hi) ?_ m0 ⟨0, HD, IB, tB, fun c hc => (fD c hc).1.1, w0⟩
    rintro m s1 ⟨i, H1, I1, t1, n1, w1⟩
    rcases turn i m H1 w1 with ⟨stop, qe⟩ | ⟨go, Nx, less, step⟩
    · refine thnF (T.done Y rfl rfl rfl hc i [] s1 _ H1 (fun _ _ => False) I1 (still I1 n1) t1 stop) fun r s2 ⟨hr, I2⟩ => ?_
      subst hr
      have back : Inv X pins σ H1 s2 := ID.call' (ch := fp) I2.os I2.base I2.hok I2.bare fun c hc =>
        let z := (fD c hc).1.2
        ⟨z.2.2.1, z.1, z.2.2.2.1, z.2.2.2.2⟩
      have nL : H1 L = none := I2.free
      have fL : FpOk X pins H1 L := ID.fpOk (Nat.le_refl _) nL
      obtain ⟨mm, loc, _⟩ := I2.loc
      exact ⟨mm, loc, fun _ sb => ⟨.ref D, H1, back.turned (t' := s2.toks) (fun c o hc e => (sb.2 c hc).trans e) fL.1 fL.2.1 fL.2.2.2.1 fL.2.2.2.2.1 fL.2.2.2.2.2, rfl, qe⟩⟩
    · refine thnF (T.item Y rfl rfl rfl hc i [] s1 _ H1 (fun _ _ => False) I1 (still I1 n1) t1 go) fun r s2 ⟨u, hr, a2⟩ => ?_
      subst hr
      refine thnF a2 fun _ s3 ⟨x, H3, I3, r3, y3, t3, n3⟩ => ?_
      have held := I3.pinned (still I3 n3) (T.obj _ _ t3)
      refine thnF ((hg bx).run _ s3 _ H3 x u _ held r3 (step x H3 y3)) fun _ s4 ⟨σ4, H4, I4, w4, q4⟩ => ?_
      refine thnF ((ht bx).run _ s4 σ4 H4 _ I4 q4) fun c s5 ⟨H5, I5, q5⟩ => ?_
      have next : ∀ {s' : Shared} {H' : Hp}, Inv Y ([] ++ pinsAt fp s3.heap) σ4 H' s' → Nx H' → ∃ m', m' < m ∧ ∃ i Hi, Inv Y [] (wipe σ (own.map (·.2))) Hi s' ∧ tn i s'.heap ∧ (∀ c ∈ fp, Hi c = none) ∧ W i m' Hi := fun {s' H'} J' nx => by
        obtain ⟨m', lt, w'⟩ := less H' nx
        have stays : ∀ c ∈ fp, ∀ o, s3.heap.get? c = some o → s'.heap.get? c = some o ∧ H' c = none := fun c hc o e => by
          obtain ⟨z1, z2, _⟩ := J'.pin (c, o) (List.mem_append_right _ (List.mem_append_right _ (mem_pinsAt hc e)))
          exact ⟨z1, z2⟩
        have len : (wipe σ (own.map (·.2))).length = σ4.length := by rw [← wipe_length σ4 (own.map (·.2)), w4]
        have bare := (J'.unpinned (pins := [])).weak len fun j v e => (wipe_some (w4 ▸ e)).1
        refine ⟨m', lt, i + 1, H', bare, T.keep _ _ _ t3 fun c hc o e => (stays c hc o e).1, fun c hc => ?_, w'⟩
        obtain ⟨o, e, _⟩ := T.obj _ _ t3 c hc
        exact (stays c hc o e).2
      cases c with
      | false =>
        simp only [Bool.false_eq_true, if_false] at q5 ⊢
        exact next I5 q5
      | true =>
        simp only [if_true] at q5 ⊢
        refine thnF ((hk bx).run _ s5 σ4 H5 _ I5 q5) fun kv s6 ⟨ky, H6, I6, r6, q6⟩ => ?_
        refine thnF ((hv bx).run _ s6 σ4 H6 _ I6 q6) fun vv s7 ⟨vy, H7, I7, r7, kvs, k, p, ek, hp, hD7, hz, nx⟩ => ?_
        subst ek
        obtain rfl : kv = Value.ref p := r6
        exact put_t (X := Y) hu I7 hD7 hp hz r7 fun s8 I8 => next I8 nx
  exact codeAny_compStart_dict loop (T.self X.A 0 _ _ _ tB loop)
end
end DcT

namespace DL
open PySem PySem.Spec PyProof.Rows L2
open DcT (tDt pe_dt)
/-! a dict comprehension with tuple keys, told by data -/
def keyD : Key → Dt
  | .inl i => .int i
  | .inr s => .str s
def putT (kvs : List (List Key × Dt)) (k : List Key) (d : Dt) : List (List Key × Dt) :=
  if (kvs.any fun q => decide (q.1 = k)) = true then kvs.map (fun q => if q.1 = k then (q.1, d) else q) else kvs ++ [(k, d)]
section
variable {b : Bg} {F F' : Hp}
theorem keys_rep : ∀ {ks : List Key} {ws : List V}, RepL b F ws (ks.map keyD) → ws = ks.map kV
  | [], _, h => by cases h; rfl
  | k :: ks, _, h => by
    cases h with
    | cons r t =>
      rw [keys_rep t]
      cases k <;> (cases r; rfl)
theorem RepD.any {k : List Key} : ∀ {kvs : List (List Key × Dt)} {vs : List (List Key × V)}, RepD b F vs kvs → (vs.any fun q => decide (q.1 = k)) = kvs.any fun q => decide (q.1 = k)
  | [], _, h => by cases h; rfl
  | (n, d) :: kvs, _, h => by
    cases h with
    | cons r t => rw [List.any_cons, List.any_cons, RepD.any t]
theorem RepD.length : ∀ {kvs : List (List Key × Dt)} {vs : List (List Key × V)}, RepD b F vs kvs → vs.length = kvs.length
  | [], _, h => by cases h; rfl
  | (n, d) :: kvs, _, h => by
    cases h with
    | cons r t => exact congrArg (· + 1) (RepD.length t)
theorem RepD.append : ∀ {xs ys : List (List Key × Dt)} {vs ws : List (List Key × V)}, RepD b F vs xs → RepD b F ws ys → RepD b F (vs ++ ws) (xs ++ ys)
  | _, _, _, _, .nil, s => s
  | _, _, _, _, .cons r t, s => .cons r (RepD.append t s)
theorem RepD.repl {k : List Key} {v : V} {d : Dt} (r : Rep b F v d) : ∀ {kvs : List (List Key × Dt)} {vs : List (List Key × V)}, RepD b F vs kvs → RepD b F (vs.map fun q => if q.1 = k then (q.1, v) else q) (kvs.map fun q => if q.1 = k then (q.1, d) else q)
  | [], _, h => by cases h; exact .nil
  | (n, e) :: kvs, _, h => by
    cases h with
    | @cons _ w vs2 _ _ q t =>
      by_cases z : n = k
      · rw [List.map_cons, List.map_cons, if_pos (show (n, w).1 = k from z), if_pos (show (n, e).1 = k from z)]
        exact .cons r (RepD.repl r t)
      · rw [List.map_cons, List.map_cons, if_neg (show ¬ (n, w).1 = k from z), if_neg (show ¬ (n, e).1 = k from z)]
        exact .cons q (RepD.repl r t)
theorem RepD.put {k : List Key} {v : V} {d : Dt} {kvs : List (List Key × Dt)} {vs : List (List Key × V)} (r : Rep b F v d) (h : RepD b F vs kvs) : RepD b F (putK vs k v) (putT kvs k d) := by
  unfold putK putT
  rw [h.any]
  split
  · exact h.repl r
  · exact h.append (.cons r .nil)
theorem putT_len (kvs : List (List Key × Dt)) (k : List Key) (d : Dt) : (putT kvs k d).length ≤ kvs.length + 1 := by
  unfold putT
  split
  · rw [List.length_map]; omega
  · rw [List.length_append] <;> exact Nat.le_refl _
end
@[reducible] def dDt (TI : DAt) (Tg : Dt → Gm → (Gm → Prop) → Prop) (Tt : DBt) (Ty Te : DT) (vs : List Nat) : DT := fun γ P => TI γ fun xs => xs.length ≤ 100000 ∧ Word (∃ Iv : Nat → List (List Key × Dt) → Prop, Iv 0 [] ∧
  (∀ i d acc, xs[i]? = some d → acc.length ≤ i → Iv i acc → Tg d (gwipe γ vs) fun γ2 => Tt γ2 fun c => (match c with | true => Ty γ2 fun y => Te γ2 fun z => ∃ k : List Key, y = .tup (k.map keyD) ∧ Iv (i + 1) (putT acc k z) | false => Iv (i + 1) acc)) ∧ ∀ acc, acc.length ≤ xs.length → Iv xs.length acc → P (.dT acc))
section
variable {X : Cx} {b : Bg} {tg e e1 e2 iter : Expr} {es : List Expr} {pos : Pos}
theorem de_dt {wi : TI} {g : TG} {tt : TT} {tk tv : TE} {vs js : List Nat} {TI : DAt} {Tg : Dt → Gm → (Gm → Prop) → Prop} {Tt : DBt} {T1 T2 : DT} (hi : DI b wi TI) (hg : DG b g Tg js) (ht : DB b tt Tt) (hk : DE b tk T1) (hv : DE b tv T2) (hj : ∀ i, i ∈ js → i ∈ vs) :
    DE b (tDt wi g tt tk tv vs) (dDt TI Tg Tt T1 T2 vs) := fun {Fm F0 H0 F H σ γ} P n t Q q => hi _ n t _ fun J xs Fx H1 x1 w t1 => by
  obtain ⟨hz, Iv, i0, is, id⟩ := t1
  intro D hD
  obtain ⟨Y, wk, wy⟩ := w.ex
  have nb : b.bag ≠ some D := x1.ok.nb hD
  let Pv : Nat → Hp → Prop := fun i H' => ∃ F' kvs acc, Ext b Fx H1 F' H' ∧ H' D = some (.dT kvs) ∧ F' D = none ∧ RepD b F' kvs acc ∧ acc.length ≤ i ∧ Iv i acc
  refine ⟨fun i m H' => m = xs.length - i ∧ i ≤ xs.length ∧ Pv i H', ⟨_, rfl, Nat.zero_le _, Fx, [], [], Ext.laid x1.ok hD, upd_same, x1.ok.fF hD, .nil, Nat.le_refl _, i0⟩, ?_⟩
  rintro i m H' ⟨rfl, hle, F', kvs, acc, xx, a1, a2, a3, a4, a5⟩
  have gg : Sub Fx H' := fun a o h => xx.sub a o (xx.grow a o h)
  by_cases hlt : i < xs.length
  · refine .inr ⟨wk.goes i H' hlt gg, Pv (i + 1), fun Hn p => ⟨xs.length - (i + 1), by omega, rfl, hlt, p⟩, fun x H'' y0 => ?_⟩
    obtain ⟨d, hd, hy⟩ := wy i H' x H'' hlt (wk.yields i H' x H'' hlt gg y0)
    obtain ⟨F2, x2, rx⟩ : ∃ F2, Ext b F' H' F2 H'' ∧ Rep b F2 x d := by
      rcases hy with ⟨rfl, r⟩ | ⟨T, us, ds, rfl, hT, rfl, r, rfl⟩
      · exact ⟨F', Ext.refl xx.ok, r.mono xx.grow⟩
      · exact ⟨_, Ext.push xx.ok hT, .tup upd_same (r.mono (xx.grow.trans (Ext.push xx.ok hT).grow))⟩
    have n2 : Nv b Fm F0 H0 F2 H'' (wipe σ vs) (gwipe γ vs) := ((n.to x1).to (xx.trans x2)).wiped vs
    refine hg _ n2 rx (is i d acc hd a4 a5) _ fun σ2 γ2 n3 l3 s3 t3 => ⟨?_, ?_⟩
    · exact (wipe_ext (js := vs) l3 fun i hi => s3 i fun z => hi (hj i z)).trans (wipe_ext (wipe_length _ _) fun i hi => wipe_at σ hi)
    · have hD2 : H'' D = some (.dT kvs) := x2.keep _ _ nb a1 .dT
      refine ht _ n3 t3 _ fun c F3 H3 x3 t4 => ?_
      cases c with
      | true =>
        refine iteT (hk _ (n3.to x3) t4 _ fun y dk F4 H4 x4 r4 t5 => hv _ ((n3.to x3).to x4) t5 _ fun z dz F5 H5 x5 r5 t6 => ?_)
        obtain ⟨k, ek, t7⟩ := t6
        subst ek
        cases r4 with
        | tup e r =>
          have ew := keys_rep r
          subst ew
          have z5 := (x3.trans x4).trans x5
          have hD5 : H5 D = some (.dT kvs) := z5.keep _ _ nb hD2 .dT
          have fD5 : F5 D = none := by rw [z5.new _ _ hD2 .dT, x2.new _ _ a1 .dT]; exact a2
          have hl := a3.length
          refine ⟨kvs, k, _, rfl, x5.sub _ _ (x5.grow _ _ e), hD5, Nat.lt_of_le_of_lt (show kvs.length ≤ 100000 by omega) (by decide), F5, putK kvs k z, putT acc k dz, ((xx.trans x2).trans z5).wr hD fD5 nb hD5 .dT (fun _ z => by cases z), upd_same, fD5, ?_, ?_, t7⟩
          · exact (RepD.mono (x2.grow.trans z5.grow) a3).put r5
          · have := putT_len acc k dz
            omega
      | false =>
        have fD3 : F3 D = none := by rw [x3.new _ _ hD2 .dT, x2.new _ _ a1 .dT]; exact a2
        exact iteF ⟨F3, kvs, acc, (xx.trans x2).trans x3, x3.keep _ _ nb hD2 .dT, fD3, RepD.mono (x2.grow.trans x3.grow) a3, Nat.le_succ_of_le a4, t4⟩
  · have e : i = xs.length := by omega
    subst e
    refine .inl ⟨wk.stops H' gg, ?_⟩
    have y := (x1.trans xx).take (x1.back n.ok hD) nb a1
    exact q (.ref D) (.dT acc) _ H' y (.dT upd_same (RepD.mono (fun a o h => by rw [upd_ne (ne_of_none h a2)]; exact h) a3)) (id acc a4 a5)
theorem x_dt {kx vx : Expr} {ifs : List Expr} {scope : Scope} {own : List (Str × Nat)} {js vs : List Nat} {TI : DAt} {Tg : Dt → Gm → (Gm → Prop) → Prop} {Tt : DBt} {T1 T2 : DT} (hc : X.calm = true) (hN : X.N.Nodup) (hu : X.A.units + 64 < cLine) (hi : XI X b tg iter TI) (ok : BlkOk X.N X.env.scope scope own)
    (hg : ∀ i : Bix, XG (Cx.blkI X scope i) b tg Tg js) (ht : ∀ i : Bix, XTs (Cx.blkI X scope i) b ifs Tt) (hk : ∀ i : Bix, XE (Cx.blkI X scope i) b kx T1) (hv : ∀ i : Bix, XE (Cx.blkI X scope i) b vx T2) (hj : ∀ i, i ∈ js → i ∈ vs) (ho : own.map (·.2) = vs := by rfl) (hs : ∀ x, foldedSetIterable iter X.env x = pure x := by intro _; rfl) :
    XE X b (.DictComp kx vx [⟨tg, iter, ifs, 0⟩] scope pos) (dDt TI Tg Tt T1 T2 vs) := by
  subst ho
  obtain ⟨_, i1, i2⟩ := hi
  obtain ⟨g, g1, g2⟩ := XG.all hg
  obtain ⟨tt, t1, t2⟩ := XTs.all ht
  obtain ⟨tk, k1, k2⟩ := XE.all hk
  obtain ⟨tv, v1, v2⟩ := XE.all hv
  exact ⟨_, pe_dt hc hN (by omega) i1 ok g1 t1 k1 v1 hs, de_dt i2 g2 t2 k2 v2 hj⟩
end
end DL

namespace DL
open PySem PySem.Spec PyProof.Rows L2 ZN
section
variable {X : Cx} {b : Bg} {e e1 e2 e3 o tg : Expr} {es : List Expr} {pos : Pos} {K : PySem.W.Frag} {Fx : Hp}
/-! f() -/
theorem x_call0 {k : Nat} {f : Addr} {fd : FuncData} {ps : List Str} {x : Str} {p : Pos} {T : DSp} (F : FnOk X.prog X.w X.K X.mg X.base CX0 k f fd ps (spD b 0 T)) (hr : Room k X.A) (hg : Gl X x) (hm : X.mg x = some (.ref f)) (hk : PySem.W.keepIn X.K (.ref f) = true) (hb : Binds X.K fd ps [])
    (hdb : (x == ("__debug__" : Str)) = false := by decide) : XE X b (.Call (.Name x p) [] [] pos) (dCall 0 T aNil) := by
  refine ⟨_, pe_call0 F hr hg hm hk hb .nil pass0 hdb, fun P n t Q q => ?_⟩
  exact ⟨_, [], P, n.ok, .nil, t.1, t.2, fun v d F' H' x r p1 => q v d F' H' x r p1⟩
/-! o.m(k = v, ..) -/
def tMethK (C : Addr) (m : Str) (sp : Sp) (gV : List V → List V → List V) (E : L2.XK) (ta : TE) (tk : TA) : TE := fun σ H Q => ta σ H fun x H1 => ∃ a dx fs, x = .ref a ∧ H1 a = some (.ins C dx fs) ∧ fs.lookup m = none ∧ tk σ H1 fun zs H2 => sp (gV [x] zs) H2 Q E
theorem pe_methK0 {CX : CXT} {k : Nat} {f C : Addr} {fd : FuncData} {ps ks : List Str} {sp : Sp} {E : L2.XK} {m : Str} {apos : Pos} {kws : List Keyword} {ta : TE} {tk : TA} {g : List Value → List Value → List Value} {gV : List V → List V → List V} {pl : Sem Bool}
    (he : PE X o ta) (c : Cls X.K C) (hm : Meth X.K C m f) (F : FnOk X.prog X.w X.K X.mg X.base CX k f fd ps sp) (hr : Room k X.A) (hb : KBinds X.K fd ps ks g gV) (hx : Passes CX X E) (hkw : PK X kws tk)
    (hall : (backToKw pos (keywordEach kws X.env)).all (·.1.isSome) = true := by rfl) (hks : (backToKw pos (keywordEach kws X.env)).filterMap (·.1) = ks := by rfl)
    (hpl : ((backTo pos (starEach [] X.env)).any (·.1) || (backToKw pos (keywordEach kws X.env)).any (·.1.isNone)) = false := by rfl)
    (ht : eval (.Call (.Attribute o m apos) [] kws pos) X.env = (do
      let ov ← eval o X.env
      standAt apos.atName
      let (f, first) ← holding [ov] (getMethod ov m pl)
      callWith pos f first (backTo pos (starEach [] X.env)) (backToKw pos (keywordEach kws X.env))) := by rfl) :
    PE X (.Call (.Attribute o m apos) [] kws pos) (tMethK C m sp gV E ta tk) := by
  refine ⟨fun pins s σ H Q I h => ?_⟩
  refine PySem.W.methodCall_KW (pl := pl) (thn (he.run pins s σ H _ I h) fun u s1 ⟨x, H1, I1, rx, a, dx, fs, ex, ea, l, q⟩ => ?_) ht
  subst ex
  obtain rfl : u = Value.ref a := rx
  refine getmeth_ok I1 ea c hm l ?_
  refine PySem.W.callWith_KW0 (first := [.ref a]) (h₀ := X.base) I.ok.mod.kin hm.kp hall ?_ hpl
  refine thn (hkw.run pos pins s1 σ H1 _ I1 q) fun ws s2 ⟨zs, H2, I2, rz, q2⟩ => ⟨I2.kIn, ?_⟩
  rw [hks]
  exact run_fnk (us := [.ref a]) (vs := [.ref a]) F hr hb hx I2 (.cons rfl .nil) rz q2
@[reducible] def dMethK (C : Addr) (mn : Str) (m : Nat) (T : DSp) (g : List Dt → List Dt → List Dt) (To : DT) (Tk : DAt) : DT := fun γ P => To γ fun d => match d with | .ins C' fs => C' = C ∧ fs.lookup mn = none ∧ Tk γ (fun es => (g [.ins C' fs] es).length = m ∧ T (g [.ins C' fs] es) P) | _ => False
theorem x_methK0 {k : Nat} {f C : Addr} {fd : FuncData} {ps ks : List Str} {mn : Str} {p : Pos} {m : Nat} {T : DSp} {To : DT} {Tk : DAt} {kws : List Keyword} {pl : Sem Bool} {g : List Value → List Value → List Value} {gV : List V → List V → List V} {gD : List Dt → List Dt → List Dt} (c : Cls X.K C) (hm : Meth X.K C mn f) (F : FnOk X.prog X.w X.K X.mg X.base CX0 k f fd ps (spD b m T)) (hr : Room k X.A) (hb : KBinds X.K fd ps ks g gV)
    (hgd : ∀ {F : Hp} {vs zs : List V} {ds es : List Dt}, RepL b F vs ds → RepL b F zs es → RepL b F (gV vs zs) (gD ds es)) (ho : XE X b o To) (hkw : XKw X b kws Tk)
    (hall : (backToKw pos (keywordEach kws X.env)).all (·.1.isSome) = true := by rfl) (hks : (backToKw pos (keywordEach kws X.env)).filterMap (·.1) = ks := by rfl)
    (hpl : ((backTo pos (starEach [] X.env)).any (·.1) || (backToKw pos (keywordEach kws X.env)).any (·.1.isNone)) = false := by rfl)
    (ht : eval (.Call (.Attribute o mn p) [] kws pos) X.env = (do
      let ov ← eval o X.env
      standAt p.atName
      let (f, first) ← holding [ov] (getMethod ov mn pl)
      callWith pos f first (backTo pos (starEach [] X.env)) (backToKw pos (keywordEach kws X.env))) := by rfl) :
    XE X b (.Call (.Attribute o mn p) [] kws pos) (dMethK C mn m T gD To Tk) := by
  obtain ⟨_, h1, h2⟩ := ho; obtain ⟨_, g1, g2⟩ := hkw
  refine ⟨_, pe_methK0 (pl := pl) h1 c hm F hr hb pass0 g1 hall hks hpl ht, fun P n t Q q => h2 _ n t _ fun v d F1 H1 x1 r1 t1 => ?_⟩
  cases r1 <;> first | exact t1.elim | skip
  rename_i hh r
  obtain ⟨ec, hz, t2⟩ := t1
  subst ec
  refine ⟨_, _, _, rfl, x1.sub _ _ hh, r.no hz, g2 _ (n.to x1) t2 _ fun zs es F2 H2 x2 r2 t3 => ?_⟩
  exact ⟨F2, _, P, x2.ok, hgd (.cons (x2.mono (.ins hh r)) .nil) r2, t3.1, t3.2, fun v d F' H' x r p1 => q v d F' H' ((x1.trans x2).trans x) r p1⟩
/-! e.f, a property -/
@[reducible] def dProp (C : Addr) (T : DSp) (Ta : DT) : DT := fun γ P => Ta γ fun d => match d with | .ins C' fs => C' = C ∧ T [.ins C' fs] P | _ => False
theorem x_prop {k : Nat} {p g C : Addr} {fd : FuncData} {ps : List Str} {f : Str} {T : DSp} (c : Cls X.K C) (hp : PropOf X.K C f p g) (F : FnOk X.prog X.w X.K X.mg X.base CX0 k g fd ps (spD b 1 T)) (hr : Room (k + 1) X.A) (hb : Binds X.K fd ps []) (ha : XE X b e Ta)
    (hab : attributeBase e f X.env (eval e X.env) = eval e X.env := by rfl) : XE X b (.Attribute e f pos) (dProp C T Ta) := by
  obtain ⟨_, h1, h2⟩ := ha
  refine ⟨_, pe_prop h1 c hp F hr hb .nil pass0 hab, fun P n t Q q => h2 _ n t _ fun v d F1 H1 x1 r1 t1 => ?_⟩
  cases r1 <;> first | exact t1.elim | skip
  rename_i hh r
  obtain ⟨ec, t2⟩ := t1
  subst ec
  exact ⟨_, _, _, rfl, x1.sub _ _ hh, F1, [_], P, x1.ok, .cons (.ins hh r) .nil, rfl, t2, fun v d F' H' x r p1 => q v d F' H' (x1.trans x) r p1⟩
theorem units65 {k : Nat} {A : Around} (r : Room k A) : A.units + 65 < cLine := by have := r.un; omega
/-! x in a list, of data of any depth -/
def anyD (x : Dt) (xs : List Dt) : Bool := xs.any fun z => PyData.eqv (py z) (py x)
@[reducible] def vInD (neg : Bool) (x y : Dt) (P : Dt → Prop) : Prop := match y with
  | .lst xs => eqOk x = true ∧ eqOk (.lst xs) = true ∧ P (.bl (match neg with | true => nB (anyD x xs) | false => anyD x xs))
  | _ => False
theorem pyL_map : ∀ xs : List Dt, pyL xs = xs.map py
  | [] => rfl
  | x :: xs => by
    show py x :: pyL xs = _
    rw [pyL_map xs] <;> rfl
theorem d2_inD {K} {neg : Bool} {r : R2} (hr : ∀ x y H Q, (∃ d ds, Dp K H x d ∧ Dp K H y (.list ds) ∧ SeqAt.shaped d = true ∧ SeqAt.shaped (.list ds) = true ∧ Q (.bl (match neg with | true => !ds.any fun z => PyData.eqv z d | false => ds.any fun z => PyData.eqv z d)) H) → r x y H Q) : D2 b r (vInD neg) := fun {F H x y d e} P k r1 r2 t Q q => by
  cases e <;> first | exact t.elim | skip
  rename_i xs
  obtain ⟨t1, t2, t3⟩ := t
  unfold eqOk at t1 t2
  rw [Bool.and_eq_true] at t1 t2
  refine hr _ _ _ _ ⟨py d, pyL xs, rep_dp k.1 r1 t1.1, rep_dp k.1 r2 t2.1, t1.2, t2.2, q _ _ F H (Ext.refl k) ?_ t3⟩
  have e : ((pyL xs).any fun z => PyData.eqv z (py d)) = anyD d xs := by
    unfold anyD
    rw [pyL_map, List.any_map] <;> rfl
  cases neg with
  | true =>
    show Rep b F (.bl (!_)) (.bl (nB _))
    rw [e, nB_eq]
    exact .bl _
  | false =>
    show Rep b F (.bl _) (.bl _)
    rw [e]
    exact .bl _
theorem x_inD (hu : X.A.units + 65 < cLine) (ha : XE X b e1 Ta) (hb : XE X b e2 Tb) (hm : behindInMarks .In e2 = false := by rfl) : XE X b (.Compare e1 [.In] [e2] pos) (d2 (vInD false) Ta Tb) := by
  obtain ⟨_, h1, h2⟩ := ha; obtain ⟨_, g1, g2⟩ := hb
  exact ⟨_, pe_cmpR (op_inD hu) h1 g1 hm, de_op (d2_inD fun x y H Q h => h) h2 g2⟩
theorem x_notInD (hu : X.A.units + 65 < cLine) (ha : XE X b e1 Ta) (hb : XE X b e2 Tb) (hm : behindInMarks .NotIn e2 = false := by rfl) : XE X b (.Compare e1 [.NotIn] [e2] pos) (d2 (vInD true) Ta Tb) := by
  obtain ⟨_, h1, h2⟩ := ha; obtain ⟨_, g1, g2⟩ := hb
  exact ⟨_, pe_cmpR (op_notInD hu) h1 g1 hm, de_op (d2_inD fun x y H Q h => h) h2 g2⟩
theorem t_inD (hu : X.A.units + 65 < cLine) (ha : XE X b e1 Ta) (hb : XE X b e2 Tb) (hm : behindInMarks .In e2 = false := by rfl) : XT X b (.Compare e1 [.In] [e2] pos) (tB1 (d2 (vInD false) Ta Tb)) := t_op (op_inD hu) (d2_inD fun x y H Q h => h) hm ha hb
theorem t_notInD (hu : X.A.units + 65 < cLine) (ha : XE X b e1 Ta) (hb : XE X b e2 Tb) (hm : behindInMarks .NotIn e2 = false := by rfl) : XT X b (.Compare e1 [.NotIn] [e2] pos) (tB1 (d2 (vInD true) Ta Tb)) := t_op (op_notInD hu) (d2_inD fun x y H Q h => h) hm ha hb
end
end DL

namespace DL
open PySem PySem.Spec PyProof.Rows L2
/-- a def with defaults of its own, told by any value that stands for them -/
structure FunV (K : PySem.W.Frag) (x qual : Str) (st : Stmt) (f : Addr) (fd : FuncData) : Prop where
  ex : ∃ (oc : Value) (od : Option Addr) (dV kV doc pm : Value) (an : Option Addr) (cdv ct : Value) (osl : Array (Option Value)),
    fd = PySem.W.fnOf x qual (defArgs st) (defBody st) (defScope st) dV kV doc pm an cdv ct ∧ K.lookup f = some ⟨oc, od, .func fd, osl⟩ ∧ PySem.W.codeIn K cdv qual = true
  kp : PySem.W.keepIn K (.ref f) = true
section
variable {P : Program} {w : World} {K : PySem.W.Frag} {mg : Str → Option Value} {base : Heap} {b : Bg}
theorem FunV.ok {x qual : Str} {st : Stmt} {f : Addr} {fd : FuncData} {N ps : List Str} {k : Nat} {sp : Sp} (F : FunV K x qual st f fd) (S : FnScope N ps (defScope st)) (len : ∀ vs H Q E, sp vs H Q E → vs.length = ps.length)
    (hbody : ∀ (cdv : Value) (A : Around) (outer : List Env) (s : Shared) (H : Hp) (vs : List V) (Q : VK) (E : L2.XK), Room k (A.deeper (envOfC qual (defScope st) s.heap.objs.size f cdv)) → sp vs H Q E →
      ∃ t, PSs (cxOf CX0 P w K mg base N qual (defScope st) f cdv A outer s H E).nox (defBody st) t ∧ t { nx := fun _ H' => Q .non H', rt := Q } (L2.start N vs) H) : FnOk P w K mg base CX0 (k + 1) f fd ps sp := by
  obtain ⟨oc, od, dV, kV, doc, pm, an, cdv, ct, osl, rfl, lk, hcd⟩ := F.ex
  refine fn_of lk hcd S len fun A outer s H vs Q E hr hsp => ?_
  obtain ⟨t, h, q⟩ := hbody cdv A outer s H vs Q E hr hsp
  exact ⟨t, h.nox, q⟩
theorem funV_mk {x qual : Str} {st : Stmt} {f : Addr} {oc : Value} {od an : Option Addr} {osl : Array (Option Value)} {dV kV doc pm cdv ct : Value} (l : K.lookup f = some ⟨oc, od, .func (PySem.W.fnOf x qual (defArgs st) (defBody st) (defScope st) dV kV doc pm an cdv ct), osl⟩)
    (c : PySem.W.codeIn K cdv qual = true) (k : PySem.W.keepIn K (.ref f) = true) : FunV K x qual st f (PySem.W.fnOf x qual (defArgs st) (defBody st) (defScope st) dV kV doc pm an cdv ct) := ⟨⟨oc, od, dV, kV, doc, pm, an, cdv, ct, osl, rfl, l, c⟩, k⟩
/-- all arguments are given: the defaults are read, and none is taken -/
theorem bindsV {x qual : Str} {st : Stmt} {T e : Addr} {oT : Value} {pT an : Option Addr} {nT : Nat} {sT : Array (Option Value)} {kV doc pm cdv ct : Value} {ps : List Str} (l : K.lookup T = some ⟨oT, pT, .seq #[.ref e] nT, sT⟩)
    (h : ∀ us : List Value, us.length = ps.length → ∃ k, bindArgs (PySem.W.fnOf x qual (defArgs st) (defBody st) (defScope st) (.ref T) kV doc pm an cdv ct) ⟨us, []⟩ = seqItems? (.ref T) >>= k ∧ k (some #[.ref e]) = pure (ps.zip us)) :
    Binds K (PySem.W.fnOf x qual (defArgs st) (defBody st) (defScope st) (.ref T) kV doc pm an cdv ct) ps [] := fun s us X hlen => by
  have hl : us.length = ps.length := by rw [List.append_nil] at hlen; exact hlen
  obtain ⟨k, e1, e2⟩ := h us hl
  refine BindsTo.of_looks fun M => ?_
  rw [e1]
  refine looks_items X l rfl (.of_pure ?_)
  rw [List.append_nil]
  exact e2
theorem fn_IV {x qual : Str} {st : Stmt} {f C : Addr} {fd : FuncData} {N ps : List Str} {k m : Nat} {T : DIp} (F : FunV K x qual st f fd) (S : FnScope N ps (defScope st)) (hm : ps.length = m + 1)
    (hbody : ∀ (X : Cx) (outer : List Env) (cdv : Value) (A : Around) (s : Shared) (H : Hp) (E : L2.XK), X = (cxOf CX0 P w K mg base N qual (defScope st) f cdv A outer s H E).nox → Room k X.A → ∃ T', XSs (cxOf CX0 P w K mg base N qual (defScope st) f cdv A outer s H E).nox b (defBody st) T' ∧
      ∀ (l : Addr) (ds : List Dt) (R : List (Str × Dt) → Prop), ds.length = m → T ds R → T' { nx := fun γ => ∃ fs, gat γ 0 = .obj l (.ins C fs) ∧ R fs, rt := fun γ d => d = .non ∧ ∃ fs, gat γ 0 = .obj l (.ins C fs) ∧ R fs } (startI N l C ds)) :
    FnOk P w K mg base CX0 (k + 1) f fd ps (spI b C m T) := by
  refine F.ok S (fun vs H Q E h => ?_) (fun cdv A outer s H vs Q E hr h => ?_)
  · obtain ⟨l, dx, ws, F0, H1, ds, R, rfl, _, _, _, _, _, h2, h3, _⟩ := h
    rw [List.length_cons, h2.length, h3, hm]
  · obtain ⟨l, dx, ws, F0, H1, ds, R, rfl, rfl, hx, hdx, hne, h1, h2, h3, h4, h5⟩ := h
    obtain ⟨T', ⟨t, t1, t2⟩, t3⟩ := hbody _ outer cdv A s _ E rfl hr
    have n1 : Nv b F0 F0 H1 F0 H1 (L2.start N (.non :: ws)) (startD N (.non :: ds)) := start_nv (Fm := F0) h1 (.cons .non h2)
    have x1 : Ext b F0 H1 F0 (upd H1 dx (.own l)) := Ext.laid h1 hdx
    have hx2 : (upd H1 dx (.own l)) l = none := by rw [upd_ne hne.symm]; exact hx
    have x2 : Ext b F0 (upd H1 dx (.own l)) F0 (upd (upd H1 dx (.own l)) l (.ins C dx [])) := Ext.laid x1.ok hx2
    have n2 := (n1.to x1).to x2
    have n3 : Nv b F0 F0 H1 F0 (upd (upd H1 dx (.own l)) l (.ins C dx [])) (L2.start N (.ref l :: ws)) (startI N l C ds) :=
      n2.setObj 0 (l := l) (u := .ins C dx []) (d := .ins C []) upd_same (.ins .nil) (h1.fF hx) hx (h1.nb hx) fun j a hj => by rw [start_adr] at hj; cases hj
    have fin : ∀ {F' H' : Hp} {σ : L2.St} {γ : Gm}, Nv b F0 F0 H1 F' H' σ γ → (∃ fs, gat γ 0 = .obj l (.ins C fs) ∧ R fs) → Q .non H' := fun {F' H' σ γ} n ⟨fs, g, r⟩ => by
      have hs := n.slot 0
      rw [g] at hs
      obtain ⟨u, _, a2, a3, a4, _, _⟩ := hs
      cases a3 with
      | ins rr => exact h5 _ _ _ _ fs n.ext a2 a4 rr r
    refine ⟨t, t1, t2 _ n3 (t3 l ds R h3 h4) _ ⟨?_, ?_, ?_, ?_⟩⟩
    · intro F' H' σ γ n r
      exact fin n r
    · intro F' H' σ γ v d n r p
      obtain ⟨rfl, p⟩ := p
      cases r
      exact fin n p
    · intro F' H' σ γ n r
      exact r.elim
    · intro F' H' σ γ n r
      exact r.elim
theorem fn_DV {x qual : Str} {st : Stmt} {f : Addr} {fd : FuncData} {N ps : List Str} {k : Nat} {T : DSp} (F : FunV K x qual st f fd) (S : FnScope N ps (defScope st))
    (hbody : ∀ (X : Cx) (outer : List Env) (cdv : Value) (A : Around) (s : Shared) (H : Hp) (E : L2.XK), X = (cxOf CX0 P w K mg base N qual (defScope st) f cdv A outer s H E).nox → Room k X.A → ∃ T', XSs (cxOf CX0 P w K mg base N qual (defScope st) f cdv A outer s H E).nox b (defBody st) T' ∧ ∀ (ds : List Dt) (R : Dt → Prop), ds.length = ps.length → T ds R → T' { nx := fun _ => R .non, rt := fun _ => R } (startD N ds)) :
    FnOk P w K mg base CX0 (k + 1) f fd ps (spD b ps.length T) := by
  refine F.ok S (fun vs H Q E h => ?_) (fun cdv A outer s H vs Q E hr h => ?_)
  · obtain ⟨F0, ds, R, h1, h2, h3, _⟩ := h
    rw [h2.length, h3]
  · obtain ⟨F0, ds, R, h1, h2, h3, h4, h5⟩ := h
    obtain ⟨T', ⟨t, t1, t2⟩, t3⟩ := hbody _ outer cdv A s H E rfl hr
    refine ⟨t, t1, t2 _ (start_nv (Fm := F0) h1 h2) (t3 ds R h3 h4) _ ⟨?_, ?_, ?_, ?_⟩⟩
    · intro F' H' σ γ n r
      exact h5 _ _ _ _ n.ext .non r
    · intro F' H' σ γ v d n r p
      exact h5 _ _ _ _ n.ext r p
    · intro F' H' σ γ n r
      exact r.elim
    · intro F' H' σ γ n r
      exact r.elim
end
end DL

namespace DL
open PySem PySem.Spec PySem.Calls PyProof.Rows L2
/-! `*a, b = e` and its kin: one starred target among several -/
section
variable {prog : Program} {w : World} {A : Around} {E : Value → Shared → Prop} {s : Shared}
theorem unstarT {l : Addr} {items : Array Value} {n i : Nat} {Q : List Value → Shared → Prop} (hl : IsTup s.heap l items) (hh : A.handled = none) (hi : i < n) (hn : n ≤ items.size + 1) (hz : items.size ≤ 16384)
    (h : ∀ (h' : Heap) (tk : Nat), (∀ b o, s.heap.get? b = some o → h'.get? b = some o) → Q (items.toList.take i ++ [.ref h'.objs.size] ++ (items.toList.drop i).drop (items.size + 1 - n)) { s with heap := h'.push { cls := .type "list", data := .seq ((items.toList.drop i).take (items.size + 1 - n)).toArray }, toks := tk }) :
    wpAny (model prog w) A (unpackItems (.ref l) n (some i)) Q E s := by
  have hlt : l ≠ s.heap.objs.size := by obtain ⟨o, ho, _⟩ := hl; exact Nat.ne_of_lt (Heap.lt_size ho)
  unfold unpackItems
  refine wpAny_bind ?_
  unfold notIterableAtAll
  refine wpAny_bind (wpAny_specialOf hl.typeIs slot_tuple_iter.lookup ?_)
  refine wpAny_pure ?_
  simp only [Bool.false_eq_true, if_false]
  refine wpAny_bind (wpAny_holding (iter_tuple hl ?_))
  refine wpAny_bind (wpAny_holding (draw_tuple hlt i 0 _ _ ⟨_, Heap.get?_push_size _ rfl, rfl, rfl⟩ (hl.push _) (by omega) fun h₁ hit₁ hs₁ => ?_))
  have hl₁ : IsTup h₁ l items := (hl.push _).extBut hs₁.extBut hlt
  rw [Nat.zero_add] at hit₁
  have hit₁' := hit₁
  obtain ⟨oi, hoi, _⟩ := hit₁'
  have hl₁' := hl₁
  obtain ⟨ol, hol, _⟩ := hl₁'
  rw [List.drop_zero]
  have hfl : (items.toList.take i).length = i := by rw [List.length_take, Array.length_toList]; omega
  rw [if_neg (show ¬ ((items.toList.take i).length < i) by rw [hfl]; omega)]
  refine wpAny_bind (wpAny_holding (PySem.W.kun_collect (s := { s with heap := h₁ }) (T := "tuple_iterator") (.inr (.inr (.inr rfl))) (Walks.tuple (A := A.in1) hh s.heap.objs.size l hlt items) (fun j u st => st.1.typeIs) (k := i) (by omega) ⟨hit₁, hl₁⟩ (Heap.lt_size hoi) (Heap.lt_size hol) (fun h₂ tk hk => ?_) (by rw [sizeLine_eq]; omega)))
  have hrl : (items.toList.drop i).length = items.size - i := by rw [List.length_drop, Array.length_toList]
  have hmid : (items.toList.drop i).length - (n - 1 - i) = items.size + 1 - n := by rw [hrl]; omega
  show wpAny _ _ (if (items.toList.drop i).length < n - 1 - i then _ else _) _ _ _
  rw [if_neg (by rw [hrl]; omega)]
  show wpAny _ _ (newList ((items.toList.drop i).take ((items.toList.drop i).length - (n - 1 - i))) >>= fun d => pure (items.toList.take i ++ [d] ++ (items.toList.drop i).drop ((items.toList.drop i).length - (n - 1 - i)))) _ _ _
  rw [hmid]
  have he : ∀ b o, s.heap.get? b = some o → h₂.get? b = some o := fun b o e => hk b o (Nat.ne_of_lt (Heap.lt_size e)) (hs₁.extBut b o (Nat.ne_of_lt (Heap.lt_size e)) (Heap.get?_push_of_some _ e))
  exact wpAny_bind (wpAny_newList (s := { s with heap := h₂, toks := tk }) (wpAny_pure (h h₂ tk he)) (by rw [List.length_take, hrl, sizeLine_eq]; omega))
theorem unstarL {l : Addr} {items : Array Value} {n i : Nat} {Q : List Value → Shared → Prop} (hl : s.heap.IsList l items) (hh : A.handled = none) (hi : i < n) (hn : n ≤ items.size + 1) (hz : items.size ≤ 16384)
    (h : ∀ (h' : Heap) (tk : Nat), (∀ b o, s.heap.get? b = some o → h'.get? b = some o) → Q (items.toList.take i ++ [.ref h'.objs.size] ++ (items.toList.drop i).drop (items.size + 1 - n)) { s with heap := h'.push { cls := .type "list", data := .seq ((items.toList.drop i).take (items.size + 1 - n)).toArray }, toks := tk }) :
    wpAny (model prog w) A (unpackItems (.ref l) n (some i)) Q E s := by
  have hlt : l ≠ s.heap.objs.size := by obtain ⟨o, ho, _⟩ := hl; exact Nat.ne_of_lt (Heap.lt_size ho)
  unfold unpackItems
  refine wpAny_bind ?_
  unfold notIterableAtAll
  refine wpAny_bind (wpAny_specialOf hl.typeIs slot_list_iter.lookup ?_)
  refine wpAny_pure ?_
  simp only [Bool.false_eq_true, if_false]
  refine wpAny_bind (wpAny_holding (wpAny_pyIter_list hl ?_))
  refine wpAny_bind (wpAny_holding (PySem.W.kun_draw hlt i 0 _ _ ⟨_, Heap.get?_push_size _ rfl, rfl, rfl⟩ (hl.push _) (by omega) fun h₁ hit₁ hs₁ => ?_))
  have hl₁ : h₁.IsList l items := (hl.push _).extBut hs₁.extBut hlt
  rw [Nat.zero_add] at hit₁
  have hit₁' := hit₁
  obtain ⟨oi, hoi, _⟩ := hit₁'
  have hl₁' := hl₁
  obtain ⟨ol, hol, _⟩ := hl₁'
  rw [List.drop_zero]
  have hfl : (items.toList.take i).length = i := by rw [List.length_take, Array.length_toList]; omega
  rw [if_neg (show ¬ ((items.toList.take i).length < i) by rw [hfl]; omega)]
  refine wpAny_bind (wpAny_holding (PySem.W.kun_collect (s := { s with heap := h₁ }) (T := "list_iterator") (.inr (.inr (.inl rfl))) (Walks.list (A := A.in1) hh s.heap.objs.size l hlt items) (fun j u st => st.1.typeIs) (k := i) (by omega) ⟨hit₁, hl₁⟩ (Heap.lt_size hoi) (Heap.lt_size hol) (fun h₂ tk hk => ?_) (by rw [sizeLine_eq]; omega)))
  have hrl : (items.toList.drop i).length = items.size - i := by rw [List.length_drop, Array.length_toList]
  have hmid : (items.toList.drop i).length - (n - 1 - i) = items.size + 1 - n := by rw [hrl]; omega
  show wpAny _ _ (if (items.toList.drop i).length < n - 1 - i then _ else _) _ _ _
  rw [if_neg (by rw [hrl]; omega)]
  show wpAny _ _ (newList ((items.toList.drop i).take ((items.toList.drop i).length - (n - 1 - i))) >>= fun d => pure (items.toList.take i ++ [d] ++ (items.toList.drop i).drop ((items.toList.drop i).length - (n - 1 - i)))) _ _ _
  rw [hmid]
  have he : ∀ b o, s.heap.get? b = some o → h₂.get? b = some o := fun b o e => hk b o (Nat.ne_of_lt (Heap.lt_size e)) (hs₁.extBut b o (Nat.ne_of_lt (Heap.lt_size e)) (Heap.get?_push_of_some _ e))
  exact wpAny_bind (wpAny_newList (s := { s with heap := h₂, toks := tk }) (wpAny_pure (h h₂ tk he)) (by rw [List.length_take, hrl, sizeLine_eq]; omega))
end
section
variable {X : Cx} {b : Bg} {e : Expr} {es : List Expr} {pos : Pos}
def gStar (K : PySem.W.Frag) (n i : Nat) (t : TGs) : TG := fun v σ H Q => ∃ a xs, v = V.ref a ∧ (SqT K H a xs ∨ SqL K H a xs) ∧ n ≤ xs.length + 1 ∧ xs.length ≤ 16384 ∧ ∀ D, H D = none → t (xs.take i ++ [V.ref D] ++ (xs.drop i).drop (xs.length + 1 - n)) σ (upd H D (.lst ((xs.drop i).take (xs.length + 1 - n)))) Q
theorem pg_star {k n i : Nat} {p : Pos} {t : TGs} (hc : X.calm = true) (h : PGs X es t) (hi : i < n) (hn : (assignEach es X.env).length = n) (hst : (assignEach es X.env).findIdx? (·.1) = some i) : PG X (.Tuple es k p) (gStar X.K n i t) := by
  refine ⟨fun pins s σ H v u Q I r hw => ?_⟩
  obtain ⟨a, xs, e1, hq, hl, hz, hw⟩ := hw
  subst e1
  cases r
  rw [assign_Tuple]
  refine wpAny_bind (wpAny_standAt ?_)
  unfold unpack
  rw [hn, hst]
  have fin : ∀ (its : List Value), Vals xs its → ∀ (h' : Heap) (tk : Nat), (∀ b o, s.heap.get? b = some o → h'.get? b = some o) →
      wpAny (model X.prog X.w) X.A (assignInOrder ((assignEach es X.env).map (·.2)) (its.toArray.toList.take i ++ [.ref h'.objs.size] ++ (its.toArray.toList.drop i).drop (its.toArray.size + 1 - n))) (fun _ s' => ∃ σ' H', Inv X pins σ' H' s' ∧ Q σ' H') X.xe
        { s with heap := h'.push { cls := .type "list", data := .seq ((its.toArray.toList.drop i).take (its.toArray.size + 1 - n)).toArray }, toks := tk } := fun its rv h' tk kp => by
    have hsz : its.toArray.size = xs.length := by rw [List.size_toArray]; exact rv.length.symm
    rw [hsz]
    have I1 : Inv X pins σ H { s with heap := h', toks := tk } := I.kept kp
    have I2 := I1.laid (t' := tk) (a := h'.objs.size) (o := .lst ((xs.drop i).take (xs.length + 1 - n))) (h' := h'.push { cls := .type "list", data := .seq ((its.drop i).take (xs.length + 1 - n)).toArray }) (fun b u e => Heap.get?_push_of_some _ e) (Nat.le_refl _)
      (show ObjOk X.prog X.w _ _ _ (.lst _) from ⟨by rw [List.length_take, List.length_drop, sizeLine_eq]; omega, _, 0, (rv.drop i).take _, Heap.get?_push_size _ rfl⟩)
    refine h.run pins _ σ _ _ _ Q I2 ?_ (hw _ (I1.hok.fresh (Nat.le_refl _)))
    exact ((rv.take i).append (show Vals [V.ref h'.objs.size] [Value.ref h'.objs.size] from .cons rfl .nil)).append ((rv.drop i).drop _)
  rcases hq with hq | hq
  · obtain ⟨its, rv, ht, _⟩ := I.tuple hq
    have hsz : its.toArray.size = xs.length := by rw [List.size_toArray]; exact rv.length.symm
    exact wpAny_bind (wpAny_holding (unstarT ht (I.ok.hd hc) hi (by rw [hsz]; exact hl) (by rw [hsz]; exact hz) (fin its rv)))
  · obtain ⟨its, rv, ht, _⟩ := I.list hq
    have hsz : its.toArray.size = xs.length := by rw [List.size_toArray]; exact rv.length.symm
    exact wpAny_bind (wpAny_holding (unstarL ht.isList (I.ok.hd hc) hi (by rw [hsz]; exact hl) (by rw [hsz]; exact hz) (fin its rv)))
theorem pgs_star {e0 : Expr} {t : TG} {u : TGs} (h1 : PG X e t) (h2 : PGs X es u)
    (hs : (assignEach (e0 :: es) X.env).map (·.2) = assign e X.env :: (assignEach es X.env).map (·.2) := by rfl) : PGs X (e0 :: es) (gCons t u) := by
  constructor
  intro pins s σ H vs us Q I r ⟨v, vr, e1, h⟩
  subst e1
  cases r with
  | cons ra rb =>
    rw [hs]
    exact assignInOrder_cons (thn (h1.run pins s σ H _ _ _ I ra h) fun _ s1 ⟨σ1, H1, I1, q1⟩ => h2.run pins s1 σ1 H1 _ _ _ I1 rb q1)
theorem gs_star {e0 : Expr} {js ks : List Nat} {T : Dt → Gm → (Gm → Prop) → Prop} {U : List Dt → Gm → (Gm → Prop) → Prop} (h : XG X b e T js) (g : XGs X b es U ks) (hs : (assignEach (e0 :: es) X.env).map (·.2) = assign e X.env :: (assignEach es X.env).map (·.2) := by rfl) : XGs X b (e0 :: es) (gsCons T U) (js ++ ks) := by
  obtain ⟨_, h1, h2⟩ := h; obtain ⟨_, g1, g2⟩ := g
  refine ⟨_, pgs_star h1 g1 hs, fun {Fm F0 H0 F H σ γ} P {vs ds} n r t Q q => ?_⟩
  cases r with
  | nil => exact t.elim
  | cons ra rb => exact ⟨_, _, rfl, h2 _ n ra t _ fun σ1 γ1 n1 l1 s1 t1 => g2 _ n1 rb t1 _ fun σ2 γ2 n2 l2 s2 t2 => q σ2 γ2 n2 (l2.trans l1) (fun i hi => by rw [s2 i fun z => hi (List.mem_append_right _ z), s1 i fun z => hi (List.mem_append_left _ z)]) t2⟩
theorem RepL.takeD {F : Hp} : ∀ {vs : List V} {ds : List Dt} (k : Nat), RepL b F vs ds → RepL b F (vs.take k) (ds.take k)
  | _, _, 0, _ => by rw [List.take_zero, List.take_zero]; exact .nil
  | _, _, k + 1, .nil => by rw [List.take_nil, List.take_nil]; exact .nil
  | _, _, k + 1, .cons r t => by rw [List.take_succ_cons, List.take_succ_cons]; exact .cons r (RepL.takeD k t)
theorem RepL.dropD {F : Hp} : ∀ {vs : List V} {ds : List Dt} (k : Nat), RepL b F vs ds → RepL b F (vs.drop k) (ds.drop k)
  | _, _, 0, h => by rw [List.drop_zero, List.drop_zero]; exact h
  | _, _, k + 1, .nil => by rw [List.drop_nil, List.drop_nil]; exact .nil
  | _, _, k + 1, .cons r t => by rw [List.drop_succ_cons, List.drop_succ_cons]; exact RepL.dropD k t
theorem RepL.appD {F : Hp} : ∀ {vs ws : List V} {ds es : List Dt}, RepL b F vs ds → RepL b F ws es → RepL b F (vs ++ ws) (ds ++ es)
  | _, _, _, _, .nil, h => h
  | _, _, _, _, .cons r t, h => .cons r (RepL.appD t h)
/-- what a starred target's kin are given: the i-th gets a list -/
@[reducible] def stD (n i : Nat) (xs : List Dt) : List Dt := xs.take i ++ [.lst ((xs.drop i).take (xs.length + 1 - n))] ++ (xs.drop i).drop (xs.length + 1 - n)
@[reducible] def sStar (n i : Nat) (Ta : DT) (U : List Dt → Gm → (Gm → Prop) → Prop) : DSt := fun E γ => Ta γ fun d => match d with
  | .lst xs => n ≤ xs.length + 1 ∧ xs.length ≤ 16384 ∧ U (stD n i xs) γ E.nx
  | .tup xs => n ≤ xs.length + 1 ∧ xs.length ≤ 16384 ∧ U (stD n i xs) γ E.nx
  | _ => False
theorem s_star {k n i : Nat} {p : Pos} {js : List Nat} {U : List Dt → Gm → (Gm → Prop) → Prop} {Ta : DT} (hc : X.calm = true) (ha : XE X b e Ta) (h : XGs X b es U js) (hi : i < n) (hn : (assignEach es X.env).length = n := by rfl) (hst : (assignEach es X.env).findIdx? (·.1) = some i := by rfl)
    (hs : swapsWithSole [.Tuple es k p] e pos.line X.env = pure false := by rfl) (hw : swappedStores [.Tuple es k p] e X.env = pure none := by rfl) (hh : (assignEach [.Tuple es k p] X.env).map (·.2) = [assign (.Tuple es k p) X.env] := by rfl) :
    XS X b (.Assign [.Tuple es k p] e pos) (sStar n i Ta U) := by
  obtain ⟨_, h1, h2⟩ := ha; obtain ⟨_, g1, g2⟩ := h
  refine ⟨_, ps_asg h1 (pg_star hc g1 hi hn hst) hs hw hh, fun E nv t D kk => h2 _ nv t _ fun v d F' H' x r q => ?_⟩
  have fin : ∀ (a : Addr) (vs : List V) (xs : List Dt), (SqT X.K H' a vs ∨ SqL X.K H' a vs) → RepL b F' vs xs → n ≤ xs.length + 1 → xs.length ≤ 16384 → U (stD n i xs) _ E.nx → gStar X.K n i _ (.ref a) _ H' D.nx := fun a vs xs hq rr l1 l2 u => by
    have hl : vs.length = xs.length := rr.length
    refine ⟨a, vs, rfl, hq, by rw [hl]; exact l1, by rw [hl]; exact l2, fun A hA => ?_⟩
    rw [hl]
    have x2 := Ext.laid (o := .lst ((vs.drop i).take (xs.length + 1 - n))) x.ok hA
    have hF : F' A = none := x.ok.fF hA
    have x3 := x2.take hA (x.ok.nb hA) upd_same
    have up : ∀ {a : Addr} {o : HO}, F' a = some o → (upd F' A (.lst ((vs.drop i).take (xs.length + 1 - n)))) a = some o := fun {a o} z => by rw [upd_ne (ne_of_none z hF)]; exact z
    have rr2 := RepL.mono (fun c o z => up z) rr
    refine g2 _ ((nv.to x).to x3) (RepL.appD (RepL.appD (RepL.takeD i rr2) (.cons (.lst upd_same (RepL.takeD _ (RepL.dropD i rr2))) .nil)) (RepL.dropD _ (RepL.dropD i rr2))) u _ fun σ' γ' n' _ _ p' => kk.nx n' p'
  cases r <;> first | exact q.elim | skip
  · rename_i hh r
    exact fin _ _ _ (.inr (SqL.of (x.ok.1 _ _ hh))) r q.1 q.2.1 q.2.2
  · rename_i hh r
    exact fin _ _ _ (.inl (SqT.of (x.ok.1 _ _ hh))) r q.1 q.2.1 q.2.2
end
end DL

namespace DL
open PySem PySem.Spec PySem.Calls PyProof.Rows L2
section
variable {X : Cx} {b : Bg} {e : Expr} {es : List Expr} {pos : Pos}
theorem pe_or {t u : TE} (h : PE X e t) (g : PE X e u) : PE X e (fun σ H Q => t σ H Q ∨ u σ H Q) := ⟨fun pins s σ H Q I q => q.elim (h.run pins s σ H Q I) (g.run pins s σ H Q I)⟩
/-- a slice of what stands in a slot, a tuple or a list -/
@[reducible] def dSlN (i : Nat) (Tl Th : Gm → (Option Int → Prop) → Prop) : DT := fun γ P => match gat γ i with
  | .val (.tup z) => Tl γ fun lo => Th γ fun hi => P (.tup (cutD z lo hi))
  | .val (.lst z) => Tl γ fun lo => Th γ fun hi => P (.lst (cutD z lo hi))
  | _ => False
theorem x_slN (i : Nat) {x : Str} {p1 : Pos} {lo hi : Option Expr} {p2 : Pos} {Tl Th : Gm → (Option Int → Prop) → Prop} (hl : XO X b lo Tl) (hh : XO X b hi Th) (hN : X.N[i]? = some x := by rfl) (hv : Vis X.env.scope x := by first | exact Or.inl rfl | exact Or.inr (Or.inl rfl) | exact Or.inr (Or.inr rfl)) (hd : (x == ("__debug__" : Str)) = false := by decide)
    (hcd : (x == ("__classdict__" : Str)) = false := by decide) : XE X b (.Subscript (.Name x p1) (.Slice lo hi none p2) pos) (dSlN i Tl Th) := by
  have hx : XE X b (.Name x p1) (dVar i) := xv i hN hv hd hcd
  obtain ⟨t1, h1, d1⟩ := x_slT (pos := pos) (p2 := p2) hx hl hh
  obtain ⟨t2, h2, d2⟩ := x_l (l_sl (pos := pos) (p2 := p2) hx hl hh)
  refine ⟨_, pe_or h1 h2, fun {Fm F0 H0 F H σ γ} P n t Q q => ?_⟩
  unfold dSlN at t
  cases e : gat γ i with
  | val d =>
    rw [e] at t
    cases d with
    | tup z =>
      refine .inl (d1 P n ?_ Q q)
      show (match gat γ i with | .val d => _ | _ => False)
      rw [e]
      exact t
    | lst z =>
      refine .inr (d2 P n ?_ Q q)
      show (match gat γ i with | .val d => _ | _ => False)
      rw [e]
      exact t
    | _ => exact t.elim
  | _ => rw [e] at t; exact t.elim
end
end DL

/-! a def that hands a new list back, which whoever called may change -/
namespace DL
open PySem PySem.Spec PySem.Calls PyProof.Rows L2
abbrev DSpL := List Dt → (List Dt → Prop) → Prop
def spL (b : Bg) (m : Nat) (T : DSpL) : Sp := fun vs H Q _ => ∃ (F : Hp) (ds : List Dt) (P : List Dt → Prop), Ok b F H ∧ RepL b F vs ds ∧ ds.length = m ∧ T ds P ∧
  ∀ p us xs F' H', Ext b F H F' H' → H p = none → H' p = some (.lst us) → F' p = none → RepL b F' us xs → P xs → Q (.ref p) H'
@[reducible] def lstS (T : DSpL) : DSp := fun ds P => T ds fun xs => P (.lst xs)
structure DeL where
  nx : Gm → Prop
  rt : List Dt → Prop
structure EndsL (b : Bg) (Fm F0 H0 : Hp) (D : Ends) (E : DeL) : Prop where
  nx : ∀ {F H : Hp} {σ : L2.St} {γ : Gm}, Nv b Fm F0 H0 F H σ γ → E.nx γ → D.nx σ H
  rt : ∀ {p : Addr} {us : List V} {xs : List Dt} {F H : Hp}, Ext b F0 H0 F H → H0 p = none → H p = some (.lst us) → F p = none → RepL b F us xs → E.rt xs → D.rt (.ref p) H
abbrev DStL := DeL → Gm → Prop
def DSL (b : Bg) (ts : TS) (T : DStL) : Prop := ∀ {Fm F0 H0 F H : Hp} {σ : L2.St} {γ : Gm} (E : DeL), Nv b Fm F0 H0 F H σ γ → T E γ → ∀ D : Ends, EndsL b Fm F0 H0 D E → ts D σ H
structure XSsL (X : Cx) (b : Bg) (st : List Stmt) (T : DStL) : Prop where
  ex : ∃ te, PSs X st te ∧ DSL b te T
section
variable {X : Cx} {b : Bg} {e : Expr} {es : List Expr} {pos : Pos} {Tl : DAt} {t : DSt} {u : DStL}
theorem ss_retL (h : XL X b e Tl) : XSsL X b [.Return (some e) pos] (fun E γ => Tl γ E.rt) := by
  obtain ⟨_, h1, h2⟩ := h
  exact ⟨_, pss_one (ps_ret h1), fun {Fm F0 H0 F H σ γ} E n t D k => h2 _ n t _ fun p us xs F' H' x hp hl hf r p1 => k.rt (n.ext.trans x) (n.ext.back n.ok0 hp) hl hf r p1⟩
theorem ss_consL {st : Stmt} {r : List Stmt} (h : XS X b st t) (g : XSsL X b r u) : XSsL X b (st :: r) (fun E γ => t { nx := fun γ' => u E γ', rt := fun _ _ => False } γ) := by
  obtain ⟨_, h1, h2⟩ := h; obtain ⟨_, g1, g2⟩ := g
  exact ⟨_, pss_cons h1 g1, fun E n t D k => h2 _ n t _ ⟨fun n' t' => g2 _ n' t' D k, fun _ _ z => z.elim, fun _ z => z.elim, fun _ z => z.elim⟩⟩
@[reducible] def lCall (m : Nat) (T : DSpL) (Ta : DAt) : DAt := fun γ P => Ta γ fun ds => ds.length = m ∧ T ds P
theorem l_call {CX : CXT} {k : Nat} {f : Addr} {fd : FuncData} {ps : List Str} {x : Str} {p : Pos} {m : Nat} {T : DSpL} {Ta : DAt} (F : FnOk X.prog X.w X.K X.mg X.base CX0 k f fd ps (spL b m T)) (hr : Room k X.A) (hg : Gl X x) (hm : X.mg x = some (.ref f)) (hk : PySem.W.keepIn X.K (.ref f) = true) (hb : Binds X.K fd ps [])
    (ha : XA X b (e :: es) Ta) (hdb : (x == ("__debug__" : Str)) = false := by decide) (he : starEach (e :: es) X.env = (false, eval e X.env) :: starEach es X.env := by rfl) (hpl : (backTo pos (starEach es X.env)).any (·.1) = false := by rfl) : XL X b (.Call (.Name x p) (e :: es) [] pos) (lCall m T Ta) := by
  obtain ⟨_, h1, h2⟩ := ha
  refine ⟨_, pe_call F hr hg hm hk hb .nil pass0 h1 hdb he hpl, fun P n t Q q => h2 _ n t _ fun vs ds F1 H1 x1 r1 t1 => ?_⟩
  show spL b m T (vs ++ []) H1 Q _
  rw [List.append_nil]
  exact ⟨F1, ds, P, x1.ok, r1, t1.1, t1.2, fun p us xs F' H' x hp hl hf r p1 => q p us xs F' H' (x1.trans x) (x1.back n.ok hp) hl hf r p1⟩
end
section
variable {P : Program} {w : World} {K : PySem.W.Frag} {mg : Str → Option Value} {base : Heap} {b : Bg}
theorem fn_DL {x qual : Str} {st : Stmt} {f : Addr} {fd : FuncData} {N ps : List Str} {k : Nat} {T : DSpL} (F : Fun K x qual st f fd) (S : FnScope N ps (defScope st))
    (hbody : ∀ (X : Cx) (outer : List Env) (cdv : Value) (A : Around) (s : Shared) (H : Hp) (E : L2.XK), X = (cxOf CX0 P w K mg base N qual (defScope st) f cdv A outer s H E).nox → Room k X.A → ∃ T', XSsL (cxOf CX0 P w K mg base N qual (defScope st) f cdv A outer s H E).nox b (defBody st) T' ∧ ∀ (ds : List Dt) (R : List Dt → Prop), ds.length = ps.length → T ds R → T' { nx := fun _ => False, rt := R } (startD N ds)) :
    FnOk P w K mg base CX0 (k + 1) f fd ps (spL b ps.length T) := by
  refine F.ok S (fun vs H Q E h => ?_) (fun cdv A outer s H vs Q E hr h => ?_)
  · obtain ⟨F0, ds, R, h1, h2, h3, _⟩ := h
    rw [h2.length, h3]
  · obtain ⟨F0, ds, R, h1, h2, h3, h4, h5⟩ := h
    obtain ⟨T', ⟨t, t1, t2⟩, t3⟩ := hbody _ outer cdv A s H E rfl hr
    refine ⟨t, t1, t2 _ (start_nv (Fm := F0) h1 h2) (t3 ds R h3 h4) _ ⟨?_, ?_⟩⟩
    · intro F' H' σ γ n r
      exact r.elim
    · intro p us xs F' H' x hp hl hf r p1
      exact h5 p us xs F' H' x hp hl hf r p1
theorem fnL_D {k m : Nat} {f : Addr} {fd : FuncData} {ps : List Str} {T : DSpL} (F : FnOk P w K mg base CX0 k f fd ps (spL b m T)) : FnOk P w K mg base CX0 k f fd ps (spD b m (lstS T)) := by
  refine FnOk.imp F fun vs H Q E h => ?_
  obtain ⟨F0, ds, R, h1, h2, h3, h4, h5⟩ := h
  refine ⟨F0, ds, _, h1, h2, h3, h4, fun p us xs F' H' x hp hl hf r p1 => ?_⟩
  exact h5 _ _ (upd F' p (.lst us)) H' (x.take hp (h1.nb hp) hl) (.lst upd_same (r.mono fun a u z => by rw [upd_ne (ne_of_none z hf)]; exact z)) p1
end
section
variable {X : Cx} {b : Bg} {e : Expr} {es : List Expr} {pos : Pos} {tg : Expr}
theorem Nv.rebase {Fm F0 H0 F H F' H' : Hp} {σ σ' : L2.St} {γ γ' : Gm} (n : Nv b Fm F0 H0 F H σ γ) (m : Nv b F F H F' H' σ' γ') : Nv b Fm F0 H0 F' H' σ' γ' where
  ok0 := n.ok0
  fm := n.fm.trans m.ext.grow
  ext := n.ext.trans m.ext
  len := m.len
  dis := m.dis
  slot := fun i => by
    have h := m.slot i
    cases e : gat γ' i with
    | un => exact True.intro
    | val d => rw [e] at h; exact h
    | own l xs =>
      rw [e] at h
      obtain ⟨vs, h1, h2, h3, h4, h5, h6⟩ := h
      exact ⟨vs, h1, h2, h3, h4, n.ext.back n.ok0 h5, h6⟩
    | obj l d =>
      rw [e] at h
      obtain ⟨u, h1, h2, h3, h4, h5, h6⟩ := h
      exact ⟨u, h1, h2, h3, h4, n.ext.back n.ok0 h5, h6⟩
    | hid l xs =>
      rw [e] at h
      obtain ⟨vs, h2, h3, h4, h5, h6⟩ := h
      exact ⟨vs, h2, h3, h4, n.ext.back n.ok0 h5, h6⟩
/-- for x in a list of one's own: its name stands for nothing but the place meanwhile -/
@[reducible] def sForO (i0 : Nat) (Tg : Dt → Gm → (Gm → Prop) → Prop) (Tb : DSt) : DSt := fun E γ => match gat γ i0 with
  | .own l xs => (∀ j, j ≠ i0 → (gat γ j).adr = none) ∧ Word (∃ Iv : Nat → Gm → Prop, Iv 0 (gset γ i0 (.val (.ptr l))) ∧
    (∀ i d γ', xs[i]? = some d → Iv i γ' → Tg d γ' fun γ2 => Tb { nx := Iv (i + 1), ct := Iv (i + 1), bk := fun γ' => gat γ' i0 = .val (.ptr l) ∧ E.nx (gset γ' i0 (.own l xs)), rt := E.rt } γ2) ∧ ∀ γ', Iv xs.length γ' → gat γ' i0 = .val (.ptr l) ∧ E.nx (gset γ' i0 (.own l xs)))
  | _ => False
theorem s_forO (i0 : Nat) {x : Str} {p1 : Pos} {body : List Stmt} {js : List Nat} {Tg : Dt → Gm → (Gm → Prop) → Prop} {Tb : DSt} (hc : X.calm = true) (g : XG X b tg Tg js) (h : XSs X b body Tb) (hN : X.N[i0]? = some x := by rfl) (hv : Vis X.env.scope x := by first | exact Or.inl rfl | exact Or.inr (Or.inl rfl) | exact Or.inr (Or.inr rfl))
    (hp : PassesOwn (model X.prog X.w) X.A X.env X.xe := by exact PassesOwn.never) (hd : (x == ("__debug__" : Str)) = false := by decide) (hcd : (x == ("__classdict__" : Str)) = false := by decide) (hs : ∀ v, foldedSetIterable (.Name x p1) X.env v = pure v := by intro _; rfl) :
    XS X b (.For tg (.Name x p1) body [] pos) (sForO i0 Tg Tb) := by
  obtain ⟨_, g1, g2⟩ := g; obtain ⟨_, h1, h2⟩ := h
  refine ⟨_, ps_for hp hc (pi_list (pe_var hN hv hd hcd)) g1 h1 hs, fun {Fm F0 H0 F H σ γ} E n t D k => ?_⟩
  unfold sForO at t
  have hi := n.slot i0
  cases e : gat γ i0 with
  | un => rw [e] at t; exact t.elim
  | val d => rw [e] at t; exact t.elim
  | obj l d => rw [e] at t; exact t.elim
  | hid l d => rw [e] at t; exact t.elim
  | own l xs =>
    rw [e] at t hi
    obtain ⟨hadr, Iv, iv0, is, id⟩ := t
    obtain ⟨vs, a1, a2, a3, a4, a5, a6⟩ := hi
    have hil : i0 < γ.length := by
      rcases Nat.lt_or_ge i0 σ.length with q | q
      · rw [n.len] at q; exact q
      · rw [List.getElem?_eq_none q] at a1; cases a1
    have hset : gat (gset γ i0 (.val (.ptr l))) i0 = .val (.ptr l) := by
      rcases gat_set γ (i := i0) (.val (.ptr l)) with q | ⟨_, q⟩
      · exact q
      · omega
    have n0 : Nv b F F H F H σ (gset γ i0 (.val (.ptr l))) := by
      refine ⟨n.ok, Sub.refl _, Ext.refl n.ok, by rw [gset_len]; exact n.len, fun j => ?_, fun j j2 a q _ => ?_⟩
      · by_cases ej : j = i0
        · subst ej
          rw [hset]
          exact ⟨_, a1, .ptr l⟩
        · rw [gat_set_ne _ _ ej]
          have h0 := hadr j ej
          have hj := n.slot j
          cases e2 : gat γ j with
          | un => exact True.intro
          | val d => rw [e2] at hj; exact hj
          | own l2 xs2 => rw [e2] at h0; cases h0
          | obj l2 xs2 => rw [e2] at h0; cases h0
          | hid l2 xs2 => rw [e2] at h0; cases h0
      · exfalso
        by_cases ej : j = i0
        · subst ej; rw [hset] at q; cases q
        · rw [gat_set_ne _ _ ej, hadr j ej] at q; cases q
    have fin : ∀ {F' H' : Hp} {σ' : L2.St} {γ' : Gm}, Nv b F F H F' H' σ' γ' → gat γ' i0 = .val (.ptr l) → E.nx (gset γ' i0 (.own l xs)) → D.nx σ' H' := fun {F' H' σ' γ'} n' p1 p2 => by
      have hs := n'.slot i0
      rw [p1] at hs
      obtain ⟨v, s1, s2⟩ := hs
      cases s2
      have n5 := (n.rebase n').setG i0 (v := .ref l) (s := .own l xs) ⟨vs, rfl, n'.ext.keep l _ a6 a2 .lst, a3.mono n'.ext.grow, by rw [n'.ext.new l _ a2 .lst]; exact a4, a5, a6⟩ fun j a hj hq => by
        intro e2
        cases e2
        have hj2 := n'.slot j
        cases e3 : gat γ' j with
        | un => rw [e3] at hq; cases hq
        | val d => rw [e3] at hq; cases hq
        | own l2 xs2 =>
          rw [e3] at hq hj2
          cases hq
          obtain ⟨_, _, _, _, _, h5, _⟩ := hj2
          rw [h5] at a2; cases a2
        | obj l2 xs2 =>
          rw [e3] at hq hj2
          cases hq
          obtain ⟨_, _, _, _, _, h5, _⟩ := hj2
          rw [h5] at a2; cases a2
        | hid l2 xs2 =>
          rw [e3] at hq hj2
          cases hq
          obtain ⟨_, _, _, _, h5, _⟩ := hj2
          rw [h5] at a2; cases a2
      have es : σ'.set i0 (some (.ref l)) = σ' := by
        apply List.ext_getElem?
        intro j
        rw [List.getElem?_set]
        split
        · rename_i ej
          subst ej
          split
          · exact s1.symm
          · rename_i q
            rw [List.getElem?_eq_none (by omega)] at s1
            cases s1
        · rfl
      rw [es] at n5
      exact k.nx n5 p2
    refine ⟨_, a1, l, rfl, ⟨_, SqL.of a2⟩, ?_⟩
    refine for_it ((walk_list (K := X.K) (a := l) (xs := vs)).mono (G' := fun H => H l = some (.lst vs)) (fun H s => SqL.of s) (fun i H x H' _ _ y => y)) (Pv := fun i σ' H' => ∃ F' γ', Nv b F F H F' H' σ' γ' ∧ Iv i γ') ?_ ?_ ?_ ?_
    · exact ⟨F, _, n0, iv0⟩
    · rintro i σ' H' _ ⟨F', γ', n', _⟩
      exact n'.ext.keep l _ a6 a2 .lst
    · rintro i x σ' H' H'' hi ⟨F', γ', n', p⟩ ⟨rfl, hx⟩
      obtain ⟨d, hd, rx⟩ := a3.get hx
      refine g2 _ n' (rx.mono n'.fm) (is i d γ' hd p) _ fun σ2 γ2 n3 _ _ t3 => ?_
      exact h2 _ n3 t3 _ ⟨fun n4 p4 => ⟨_, _, n4, p4⟩, fun n4 r4 p4 => k.rt (n.rebase n4) r4 p4, fun n4 p4 => fin n4 p4.1 p4.2, fun n4 p4 => ⟨_, _, n4, p4⟩⟩
    · rintro σ' H' ⟨F', γ', n', p⟩
      rw [a3.length] at p
      exact fin n' (id γ' p).1 (id γ' p).2
end
section
variable {X : Cx} {b : Bg} {e : Expr} {T : DAt}
/-- a new list made of one's own list, with no list among its items -/
@[reducible] def lLend (i : Nat) (T : DAt) : DAt := fun γ P => match gat γ i with
  | .own _ xs => T (gset γ i (.val (.lst xs))) fun ys => noLstL ys = true ∧ P ys
  | _ => False
theorem l_lend (i : Nat) (h : XL X b e T) : XL X b e (lLend i T) := by
  obtain ⟨_, h1, h2⟩ := h
  refine ⟨_, h1, fun {Fm F0 H0 F H σ γ} P n t Q q => ?_⟩
  unfold lLend at t
  cases e : gat γ i with
  | own l xs =>
    rw [e] at t
    obtain ⟨vs, a1, nl, core⟩ := lend_core n e
    refine h2 _ nl t Q fun p us ys F' H' y hp hl hf r pq => q p us ys (less F' l) H' (core F' H' y).2 hp hl ?_ (repL_less (core F' H' y).1 r pq.1) pq.2
    unfold less
    split
    · rfl
    · exact hf
  | _ => rw [e] at t; exact t.elim
end
end DL

/-! Rows of integers and what they span, with rational multiples: two lists that span each other and whose leading columns are different have one length. -/
namespace RK
abbrev Vec := Nat → Int
/-- v is a rational combination of B -/
def Co : List Vec → Vec → Prop
  | [], v => ∀ j, v j = 0
  | b :: B, v => ∃ (d : Int) (k : Int), d ≠ 0 ∧ Co B fun j => d * v j - k * b j
theorem Co.ext {B : List Vec} {u v : Vec} (h : Co B u) (e : ∀ j, u j = v j) : Co B v := by
  rw [show v = u from funext fun j => (e j).symm]; exact h
theorem Co.zero : ∀ (B : List Vec), Co B fun _ => 0
  | [] => fun _ => rfl
  | b :: B => ⟨1, 0, by decide, (Co.zero B).ext fun j => by simp⟩
theorem Co.comb : ∀ {B : List Vec} {u v : Vec} (a c : Int), Co B u → Co B v → Co B fun j => a * u j + c * v j
  | [], u, v, a, c, hu, hv => fun j => by
    show a * u j + c * v j = 0
    rw [hu j, hv j]; simp
  | b :: B, u, v, a, c, ⟨d, k, hd, hu⟩, ⟨e, l, he, hv⟩ =>
    ⟨d * e, a * e * k + c * d * l, Int.mul_ne_zero hd he, (Co.comb (a * e) (c * d) hu hv).ext fun j => by grind⟩
theorem Co.div : ∀ {B : List Vec} {v : Vec} {k : Int}, k ≠ 0 → Co B (fun j => k * v j) → Co B v
  | [], v, k, hk, h => fun j => by
    rcases Int.mul_eq_zero.mp (h j) with q | q
    · exact absurd q hk
    · exact q
  | b :: B, v, k, hk, ⟨d, l, hd, h⟩ => ⟨d * k, l, Int.mul_ne_zero hd hk, h.ext fun j => by grind⟩
theorem Co.cons {B : List Vec} {b v : Vec} (h : Co B v) : Co (b :: B) v := ⟨1, 0, by decide, h.ext fun j => by simp⟩
theorem Co.mem : ∀ {B : List Vec} {b : Vec}, b ∈ B → Co B b
  | c :: B, b, h => by
    rcases List.mem_cons.mp h with e | h
    · subst e
      exact ⟨1, 1, by decide, (Co.zero B).ext fun j => by simp⟩
    · exact (Co.mem h).cons
/-- what C spans, B spans, if B spans each of C -/
theorem Co.trans {B : List Vec} : ∀ {C : List Vec} {v : Vec}, (∀ c, c ∈ C → Co B c) → Co C v → Co B v
  | [], v, _, h => (Co.zero B).ext fun j => (h j).symm
  | c :: C, v, hc, ⟨d, k, hd, h⟩ => by
    have h1 := Co.trans (fun x hx => hc x (List.mem_cons_of_mem _ hx)) h
    have h2 := hc c List.mem_cons_self
    exact Co.div hd ((Co.comb 1 k h1 h2).ext fun j => by grind)
/-- j is where v begins, in the order lt -/
def Lead (lt : Nat → Nat → Prop) (v : Vec) (j : Nat) : Prop := v j ≠ 0 ∧ ∀ i, lt i j → v i = 0
theorem max_of {lt : Nat → Nat → Prop} (tot : ∀ i j, i ≠ j → lt i j ∨ lt j i) (tr : ∀ i j k, lt i j → lt j k → lt i k) : ∀ {K : List Nat}, K ≠ [] → ∃ p, p ∈ K ∧ ∀ j, j ∈ K → j ≠ p → lt j p
  | [], h => absurd rfl h
  | [a], _ => ⟨a, List.mem_cons_self, fun j hj hn => absurd (List.mem_singleton.mp hj) hn⟩
  | a :: c :: K, _ => by
    obtain ⟨p, hp, hm⟩ := max_of tot tr (K := c :: K) (by simp)
    by_cases e : a = p
    · exact ⟨p, List.mem_cons_of_mem _ hp, fun j hj hn => by
        rcases List.mem_cons.mp hj with q | q
        · exact absurd (q.trans e) hn
        · exact hm j q hn⟩
    · rcases tot a p e with h | h
      · exact ⟨p, List.mem_cons_of_mem _ hp, fun j hj hn => by
          rcases List.mem_cons.mp hj with q | q
          · rw [q]; exact h
          · exact hm j q hn⟩
      · refine ⟨a, List.mem_cons_self, fun j hj hn => ?_⟩
        rcases List.mem_cons.mp hj with q | q
        · exact absurd q hn
        · by_cases ej : j = p
          · rw [ej]; exact h
          · exact tr _ _ _ (hm j q ej) h
/-- vectors that begin at different places, all spanned by B, are no more than B's -/
theorem leads_le {lt : Nat → Nat → Prop} (tot : ∀ i j, i ≠ j → lt i j ∨ lt j i) (tr : ∀ i j k, lt i j → lt j k → lt i k) : ∀ {B : List Vec} {J : List Nat} {c : Nat → Vec}, J.Nodup → (∀ j, j ∈ J → Lead lt (c j) j ∧ Co B (c j)) → J.length ≤ B.length
  | [], J, c, _, h => by
    cases J with
    | nil => exact Nat.le_refl _
    | cons j J =>
      obtain ⟨⟨h1, _⟩, h2⟩ := h j List.mem_cons_self
      exact absurd (h2 j) h1
  | b :: B, J, c, nd, h => by
    have ex : ∀ j, ∃ dk : Int × Int, j ∈ J → dk.1 ≠ 0 ∧ Co B fun i => dk.1 * c j i - dk.2 * b i := fun j => by
      by_cases hj : j ∈ J
      · obtain ⟨_, d, k, hd, hk⟩ := h j hj
        exact ⟨(d, k), fun _ => ⟨hd, hk⟩⟩
      · exact ⟨(0, 0), fun q => absurd q hj⟩
    let f : Nat → Int × Int := fun j => Classical.choose (ex j)
    have hf : ∀ j, j ∈ J → (f j).1 ≠ 0 ∧ Co B fun i => (f j).1 * c j i - (f j).2 * b i := fun j => Classical.choose_spec (ex j)
    by_cases hK : J.filter (fun j => decide ((f j).2 ≠ 0)) = []
    · have h2 : ∀ j, j ∈ J → Lead lt (c j) j ∧ Co B (c j) := fun j hj => by
        obtain ⟨f1, f2⟩ := hf j hj
        have k0 : (f j).2 = 0 := by
          by_cases q : (f j).2 = 0
          · exact q
          · have : j ∈ J.filter (fun j => decide ((f j).2 ≠ 0)) := List.mem_filter.mpr ⟨hj, decide_eq_true q⟩
            rw [hK] at this
            cases this
        exact ⟨(h j hj).1, Co.div f1 (f2.ext fun i => by rw [k0]; simp)⟩
      exact Nat.le_succ_of_le (leads_le tot tr nd h2)
    · obtain ⟨p, hp, hm⟩ := max_of tot tr hK
      obtain ⟨pJ, pk⟩ := List.mem_filter.mp hp
      have pk0 : (f p).2 ≠ 0 := of_decide_eq_true pk
      obtain ⟨p1, p2⟩ := hf p pJ
      have ih := leads_le tot tr (B := B) (J := J.erase p) (c := fun j => if (f j).2 = 0 then c j else fun i => (f p).2 * (f j).1 * c j i - (f j).2 * (f p).1 * c p i) (nd.erase p) fun j hj => by
        have hne : j ≠ p := fun e => by
          subst e
          exact List.Nodup.not_mem_erase nd hj
        have hj2 := List.mem_of_mem_erase hj
        obtain ⟨f1, f2⟩ := hf j hj2
        obtain ⟨⟨l1, l2⟩, _⟩ := h j hj2
        by_cases k0 : (f j).2 = 0
        · simp only [k0, if_true]
          exact ⟨⟨l1, l2⟩, Co.div f1 (f2.ext fun i => by rw [k0]; simp)⟩
        · simp only [k0, if_false]
          have hlt := hm j (List.mem_filter.mpr ⟨hj2, decide_eq_true k0⟩) hne
          have lp := (h p pJ).1.2
          refine ⟨⟨?_, fun i hi => ?_⟩, (Co.comb (f p).2 (-(f j).2) f2 p2).ext fun i => by grind⟩
          · show (f p).2 * (f j).1 * c j j - (f j).2 * (f p).1 * c p j ≠ 0
            rw [lp j hlt]
            simp only [Int.mul_zero, Int.sub_zero]
            exact Int.mul_ne_zero (Int.mul_ne_zero pk0 f1) l1
          · show (f p).2 * (f j).1 * c j i - (f j).2 * (f p).1 * c p i = 0
            rw [l2 i hi, lp i (tr _ _ _ hi hlt)]
            simp
      rw [List.length_erase_of_mem pJ] at ih
      show J.length ≤ B.length + 1
      omega
/-- a list that spans what rows span, each of it led by another column -/
structure Basis (lt : Nat → Nat → Prop) (rows : List Vec) (P : List (Nat × Vec)) : Prop where
  nd : (P.map (·.1)).Nodup
  lead : ∀ p, p ∈ P → Lead lt p.2 p.1
  sub : ∀ p, p ∈ P → Co rows p.2
  all : ∀ r, r ∈ rows → Co (P.map (·.2)) r
theorem find_at : ∀ {P : List (Nat × Vec)}, (P.map (·.1)).Nodup → ∀ p, p ∈ P → (P.find? (fun q => q.1 == p.1)) = some p
  | q :: P, nd, p, hp => by
    rw [List.map_cons, List.nodup_cons] at nd
    rcases List.mem_cons.mp hp with e | h
    · subst e
      rw [List.find?_cons_of_pos (by simp)]
    · have hne : q.1 ≠ p.1 := fun e => nd.1 (by rw [e]; exact List.mem_map_of_mem h)
      rw [List.find?_cons_of_neg (by simpa using hne)]
      exact find_at nd.2 p h
theorem Basis.le {lt lt' : Nat → Nat → Prop} (tot : ∀ i j, i ≠ j → lt i j ∨ lt j i) (tr : ∀ i j k, lt i j → lt j k → lt i k) {rows rows' : List Vec} {P Q : List (Nat × Vec)} (hP : Basis lt rows P) (hQ : Basis lt' rows' Q) (hs : ∀ r, r ∈ rows → Co rows' r) : P.length ≤ Q.length := by
  have := leads_le tot tr (B := Q.map (·.2)) (J := P.map (·.1)) (c := fun j => ((P.find? (fun q => q.1 == j)).map (·.2)).getD fun _ => 0) hP.nd fun j hj => by
    obtain ⟨p, hp, rfl⟩ := List.mem_map.mp hj
    rw [find_at hP.nd p hp]
    exact ⟨hP.lead p hp, Co.trans (fun r hr => hQ.all r hr) (Co.trans hs (hP.sub p hp))⟩
  simpa using this
theorem Basis.eq {lt lt' : Nat → Nat → Prop} (tot : ∀ i j, i ≠ j → lt i j ∨ lt j i) (tr : ∀ i j k, lt i j → lt j k → lt i k) (tot' : ∀ i j, i ≠ j → lt' i j ∨ lt' j i) (tr' : ∀ i j k, lt' i j → lt' j k → lt' i k) {rows rows' : List Vec} {P Q : List (Nat × Vec)} (hP : Basis lt rows P) (hQ : Basis lt' rows' Q)
    (hs : ∀ r, r ∈ rows → Co rows' r) (hs' : ∀ r, r ∈ rows' → Co rows r) : P.length = Q.length :=
  Nat.le_antisymm (hP.le tot tr hQ hs) (hQ.le tot' tr' hP hs')
end RK

/-! rows of integers: what clearing one by others does, ranks -/
namespace MX
open RK
abbrev IRow := List Int
/-- the first w numbers of a row -/
def vw (w : Nat) (xs : IRow) : Vec := fun j => if j < w then xs.getD j 0 else 0
def vws (w : Nat) (rs : List IRow) : List Vec := rs.map (vw w)
/-- r is the rank of the rows' first w columns -/
def IsRk (w : Nat) (rs : List IRow) (r : Nat) : Prop := ∃ lt : Nat → Nat → Prop, (∀ i j, i ≠ j → lt i j ∨ lt j i) ∧ (∀ i j k, lt i j → lt j k → lt i k) ∧ ∃ P, Basis lt (vws w rs) P ∧ P.length = r
theorem IsRk.eq {w w' r r' : Nat} {rs rs' : List IRow} (h : IsRk w rs r) (g : IsRk w' rs' r') (a : ∀ x ∈ rs, Co (vws w' rs') (vw w x)) (c : ∀ x ∈ rs', Co (vws w rs) (vw w' x)) : r = r' := by
  obtain ⟨lt, t1, t2, P, hP, rfl⟩ := h
  obtain ⟨lt', u1, u2, Q, hQ, rfl⟩ := g
  refine Basis.eq t1 t2 u1 u2 hP hQ (fun v hv => ?_) (fun v hv => ?_)
  · obtain ⟨x, hx, rfl⟩ := List.mem_map.mp hv
    exact a x hx
  · obtain ⟨x, hx, rfl⟩ := List.mem_map.mp hv
    exact c x hx
theorem co_mem {w : Nat} {rs : List IRow} {x : IRow} (h : x ∈ rs) : Co (vws w rs) (vw w x) := Co.mem (List.mem_map.mpr ⟨x, h, rfl⟩)
theorem IsRk.same {w r r' : Nat} {rs rs' : List IRow} (h : IsRk w rs r) (g : IsRk w rs' r') (a : ∀ x, x ∈ rs ↔ x ∈ rs') : r = r' :=
  h.eq g (fun x hx => co_mem ((a x).mp hx)) fun x hx => co_mem ((a x).mpr hx)
/-! ### the greatest common factor -/
def gcdL (xs : IRow) : Nat := xs.foldl (fun g x => Nat.gcd g x.natAbs) 0
theorem gcdL_app (xs : IRow) (x : Int) : gcdL (xs ++ [x]) = Nat.gcd (gcdL xs) x.natAbs := by
  unfold gcdL; rw [List.foldl_append] <;> rfl
theorem gcd_go : ∀ (xs : IRow) (g : Nat), (xs.foldl (fun g x => Nat.gcd g x.natAbs) g) ∣ g ∧ ∀ x ∈ xs, (xs.foldl (fun g x => Nat.gcd g x.natAbs) g) ∣ x.natAbs
  | [], g => ⟨Nat.dvd_refl _, fun x h => by cases h⟩
  | y :: xs, g => by
    obtain ⟨h1, h2⟩ := gcd_go xs (Nat.gcd g y.natAbs)
    refine ⟨Nat.dvd_trans h1 (Nat.gcd_dvd_left ..), fun x hx => ?_⟩
    rcases List.mem_cons.mp hx with e | hx
    · subst e; exact Nat.dvd_trans h1 (Nat.gcd_dvd_right ..)
    · exact h2 x hx
theorem gcdL_dvd {xs : IRow} {x : Int} (h : x ∈ xs) : (gcdL xs : Int) ∣ x := Int.ofNat_dvd_left.mpr ((gcd_go xs 0).2 x h)
theorem gcdL_one {xs : IRow} {i : Nat} (h : gcdL (xs.take i) = 1) : gcdL xs = 1 := by
  have e : gcdL xs = (xs.drop i).foldl (fun g x => Nat.gcd g x.natAbs) (gcdL (xs.take i)) := by
    unfold gcdL
    rw [← List.foldl_append, List.take_append_drop]
  rw [h] at e
  have := (gcd_go (xs.drop i) 1).1
  rw [← e] at this
  exact Nat.dvd_one.mp this
theorem gcdL_zero {xs : IRow} (h : gcdL xs = 0) {x : Int} (hx : x ∈ xs) : x = 0 := by
  have := gcdL_dvd hx
  rw [h] at this
  simpa using this
/-- the row without the factor that all its numbers share -/
def shortF (xs : IRow) : IRow := if gcdL xs ≤ 1 then xs else xs.map fun x => x / (gcdL xs : Int)
theorem shortF_len (xs : IRow) : (shortF xs).length = xs.length := by unfold shortF; split <;> simp
theorem shortF_co (xs : IRow) : ∃ g : Int, g ≠ 0 ∧ ∀ j, g * (shortF xs).getD j 0 = xs.getD j 0 := by
  unfold shortF
  by_cases h : gcdL xs ≤ 1
  · rw [if_pos h]
    exact ⟨1, by decide, fun j => by simp⟩
  · rw [if_neg h]
    refine ⟨gcdL xs, by omega, fun j => ?_⟩
    rw [List.getD_eq_getElem?_getD, List.getD_eq_getElem?_getD, List.getElem?_map]
    cases e : xs[j]? with
    | none => simp
    | some x =>
      show (gcdL xs : Int) * (x / (gcdL xs : Int)) = x
      exact Int.mul_ediv_cancel' (gcdL_dvd (List.mem_of_getElem? e))
/-! ### bounds -/
def Bd (n : Nat) (xs : IRow) : Prop := ∀ x ∈ xs, x.natAbs < 2 ^ n
theorem Bd.mono {n m : Nat} {xs : IRow} (h : Bd n xs) (l : n ≤ m) : Bd m xs := fun x hx => Nat.lt_of_lt_of_le (h x hx) (Nat.pow_le_pow_right (by decide) l)
theorem Bd.getD {n : Nat} {xs : IRow} (h : Bd n xs) (j : Nat) : (xs.getD j 0).natAbs < 2 ^ n := by
  rw [List.getD_eq_getElem?_getD]
  cases e : xs[j]? with
  | none => exact Nat.pow_pos (by decide)
  | some x => exact h x (List.mem_of_getElem? e)
theorem shortF_bd {n : Nat} {xs : IRow} (h : Bd n xs) : Bd n (shortF xs) := by
  unfold shortF
  split
  · exact h
  · intro y hy
    obtain ⟨x, hx, rfl⟩ := List.mem_map.mp hy
    refine Nat.lt_of_le_of_lt ?_ (h x hx)
    rw [Int.natAbs_ediv_of_dvd (gcdL_dvd hx)]
    exact Nat.div_le_self ..
theorem gcdL_lt {n : Nat} {xs : IRow} (h : Bd n xs) : gcdL xs < 2 ^ n := by
  by_cases z : ∀ x ∈ xs, x = 0
  · have : ∀ (ys : IRow), (∀ y ∈ ys, y = 0) → gcdL ys = 0 := fun ys => by
      unfold gcdL
      induction ys with
      | nil => intro _; rfl
      | cons y ys ih =>
        intro hy
        rw [List.foldl_cons, hy y List.mem_cons_self]
        exact ih fun z hz => hy z (List.mem_cons_of_mem _ hz)
    rw [this xs z]
    exact Nat.pow_pos (by decide)
  · obtain ⟨x, hx, hn⟩ : ∃ x, x ∈ xs ∧ x ≠ 0 := by
      apply Classical.byContradiction
      intro q
      exact z fun x hx => Classical.byContradiction fun e => q ⟨x, hx, e⟩
    refine Nat.lt_of_le_of_lt (Nat.le_of_dvd (by omega) ((gcd_go xs 0).2 x hx)) (h x hx)
/-! ### one row cleared by another -/
/-- a * line - c * other -/
def comb (a c : Int) (line other : IRow) : IRow := List.zipWith (fun m t => a * m - c * t) line other
theorem comb_len {a c : Int} {l o : IRow} (h : l.length = o.length) : (comb a c l o).length = l.length := by unfold comb; rw [List.length_zipWith]; omega
theorem comb_getD {a c : Int} {l o : IRow} (h : l.length = o.length) (j : Nat) : (comb a c l o).getD j 0 = a * l.getD j 0 - c * o.getD j 0 := by
  unfold comb
  rw [List.getD_eq_getElem?_getD, List.getD_eq_getElem?_getD, List.getD_eq_getElem?_getD, List.getElem?_zipWith]
  by_cases hj : j < l.length
  · rw [List.getElem?_eq_getElem hj, List.getElem?_eq_getElem (show j < o.length by omega)] <;> rfl
  · rw [List.getElem?_eq_none (by omega), List.getElem?_eq_none (by omega)]
    simp
theorem comb_bd {a c : Int} {l o : IRow} {n m : Nat} (hl : Bd n l) (ho : Bd m o) (ha : a.natAbs < 2 ^ m) (hc : c.natAbs < 2 ^ n) : Bd (n + m + 1) (comb a c l o) := by
  intro x hx
  unfold comb at hx
  obtain ⟨i, hi⟩ := List.getElem?_of_mem hx
  rw [List.getElem?_zipWith] at hi
  cases e1 : l[i]? with
  | none => rw [e1] at hi; cases hi
  | some p =>
    cases e2 : o[i]? with
    | none => rw [e1, e2] at hi; cases hi
    | some q =>
      rw [e1, e2] at hi
      have e : x = a * p - c * q := (Option.some.inj hi).symm
      have h1 : (a * p).natAbs < 2 ^ (n + m) := by
        rw [Int.natAbs_mul, Nat.add_comm, Nat.pow_add]
        exact Nat.mul_lt_mul'' ha (hl p (List.mem_of_getElem? e1))
      have h2 : (c * q).natAbs < 2 ^ (n + m) := by
        rw [Int.natAbs_mul, Nat.pow_add]
        exact Nat.mul_lt_mul'' hc (ho q (List.mem_of_getElem? e2))
      have h3 : (2 : Nat) ^ (n + m + 1) = 2 ^ (n + m) * 2 := Nat.pow_succ ..
      rw [e, h3]
      omega
abbrev Bas := List (Nat × IRow)
def next (l : IRow) (c : Nat) (o : IRow) : IRow := if l.getD c 0 = 0 then l else shortF (comb (o.getD c 0) (l.getD c 0) l o)
def clr : IRow → Bas → IRow
  | l, [] => l
  | l, (c, o) :: r => clr (next l c o) r
theorem next_len {l o : IRow} {c : Nat} (h : l.length = o.length) : (next l c o).length = l.length := by
  unfold next
  split
  · rfl
  · rw [shortF_len, comb_len h]
theorem clr_len : ∀ {bs : Bas} {l : IRow}, (∀ p ∈ bs, p.2.length = l.length) → (clr l bs).length = l.length
  | [], l, _ => rfl
  | (c, o) :: bs, l, h => by
    have e : (next l c o).length = l.length := next_len (h (c, o) List.mem_cons_self).symm
    show (clr (next l c o) bs).length = _
    rw [clr_len fun p hp => by rw [e]; exact h p (List.mem_cons_of_mem _ hp), e]
/-- what next does: a * line - c * other, up to a factor -/
theorem next_co {l o : IRow} {c : Nat} (h : l.length = o.length) (ho : o.getD c 0 ≠ 0) : ∃ a k g : Int, a ≠ 0 ∧ g ≠ 0 ∧ ∀ j, g * (next l c o).getD j 0 = a * l.getD j 0 - k * o.getD j 0 := by
  unfold next
  by_cases z : l.getD c 0 = 0
  · rw [if_pos z]
    exact ⟨1, 0, 1, by decide, by decide, fun j => by simp⟩
  · rw [if_neg z]
    obtain ⟨g, hg, e⟩ := shortF_co (comb (o.getD c 0) (l.getD c 0) l o)
    exact ⟨_, _, g, ho, hg, fun j => by rw [e, comb_getD h]⟩
theorem next_zero {l o : IRow} {c : Nat} (h : l.length = o.length) (ho : o.getD c 0 ≠ 0) : (next l c o).getD c 0 = 0 := by
  unfold next
  by_cases z : l.getD c 0 = 0
  · rw [if_pos z]; exact z
  · rw [if_neg z]
    obtain ⟨g, hg, e⟩ := shortF_co (comb (o.getD c 0) (l.getD c 0) l o)
    have := e c
    rw [comb_getD h, Int.mul_comm (List.getD o c 0), Int.sub_self] at this
    exact (Int.mul_eq_zero.mp this).resolve_left hg
/-- rows cleared one by the other: each with its column, where the later ones have zeros -/
inductive Ech (m w : Nat) : Bas → Prop
  | nil : Ech m w []
  | snoc {bs : Bas} {c : Nat} {o : IRow} : Ech m w bs → o.length = m → c < w → o.getD c 0 ≠ 0 → (∀ j, c < j → j < w → o.getD j 0 = 0) → (∀ p ∈ bs, o.getD p.1 0 = 0) → Ech m w (bs ++ [(c, o)])
theorem Ech.facts {m w : Nat} {bs : Bas} (h : Ech m w bs) : (bs.map (·.1)).Nodup ∧ ∀ p ∈ bs, p.2.length = m ∧ p.1 < w ∧ p.2.getD p.1 0 ≠ 0 ∧ ∀ j, p.1 < j → j < w → p.2.getD j 0 = 0 := by
  induction h with
  | nil => exact ⟨List.nodup_nil, fun p hp => by cases hp⟩
  | snoc e h1 h2 h3 h4 h5 ih =>
    rename_i bs c o
    refine ⟨?_, fun p hp => ?_⟩
    · rw [List.map_append, List.nodup_append]
      refine ⟨ih.1, by simp, fun a ha x hx => ?_⟩
      obtain ⟨p, hp, rfl⟩ := List.mem_map.mp ha
      have : x = c := by simpa using hx
      rw [this]
      intro q
      exact h3 (by rw [← q]; exact h5 p hp)
    · rcases List.mem_append.mp hp with hp | hp
      · exact ih.2 p hp
      · obtain rfl := List.mem_singleton.mp hp
        exact ⟨h1, h2, h3, h4⟩
theorem clr_snoc : ∀ (bs : Bas) (l : IRow) (c : Nat) (o : IRow), clr l (bs ++ [(c, o)]) = next (clr l bs) c o
  | [], _, _, _ => rfl
  | (d, p) :: bs, l, c, o => clr_snoc bs (next l d p) c o
/-- the cleared row has zeros in all columns of the basis -/
theorem clr_zero {m w : Nat} {bs : Bas} (h : Ech m w bs) {l : IRow} (hl : l.length = m) : ∀ p ∈ bs, (clr l bs).getD p.1 0 = 0 := by
  induction h with
  | nil => intro p hp; cases hp
  | snoc e h1 h2 h3 h4 h5 ih =>
    rename_i bs c o
    have len : (clr l bs).length = o.length := by rw [clr_len fun p hp => by rw [(e.facts.2 p hp).1, hl], hl, h1]
    rw [clr_snoc]
    intro p hp
    rcases List.mem_append.mp hp with hp | hp
    · obtain ⟨a, k, g, _, hg, q⟩ := next_co len h3
      have := q p.1
      rw [ih p hp, h5 p hp, Int.mul_zero, Int.mul_zero, Int.sub_self] at this
      exact (Int.mul_eq_zero.mp this).resolve_left hg
    · obtain rfl := List.mem_singleton.mp hp
      exact next_zero len h3
/-- the line is the cleared one and rows of the basis, up to factors -/
theorem clr_co {m w : Nat} {bs : Bas} (h : Ech m w bs) {l : IRow} (hl : l.length = m) (v : Nat → IRow → Vec) (hv : ∀ (x y z : IRow) (a k g : Int), (∀ j, g * z.getD j 0 = a * x.getD j 0 - k * y.getD j 0) → ∀ j, g * v 0 z j = a * v 0 x j - k * v 0 y j) :
    ∃ a c : Int, a ≠ 0 ∧ c ≠ 0 ∧ Co (bs.map fun p => v 0 p.2) fun j => a * v 0 l j - c * v 0 (clr l bs) j := by
  induction h with
  | nil => exact ⟨1, 1, by decide, by decide, fun j => by show 1 * v 0 l j - 1 * v 0 l j = 0; omega⟩
  | snoc e h1 h2 h3 h4 h5 ih =>
    rename_i bs c o
    obtain ⟨a, k, ha, hk, q⟩ := ih
    have len : (clr l bs).length = o.length := by rw [clr_len fun p hp => by rw [(e.facts.2 p hp).1, hl], hl, h1]
    obtain ⟨a', k', g, ha', hg, q'⟩ := next_co len h3
    rw [clr_snoc]
    refine ⟨a * a', k * g, Int.mul_ne_zero ha ha', Int.mul_ne_zero hk hg, ?_⟩
    have e2 := hv _ _ _ _ _ _ q'
    have mono : ∀ x ∈ bs.map (fun p => v 0 p.2), Co ((bs ++ [(c, o)]).map fun p => v 0 p.2) x := fun x hx => Co.mem (by rw [List.map_append]; exact List.mem_append_left _ hx)
    have q2 := Co.trans mono q
    have q3 : Co ((bs ++ [(c, o)]).map fun p => v 0 p.2) (v 0 o) := Co.mem (by rw [List.map_append]; exact List.mem_append_right _ (by simp))
    refine (Co.comb a' (k * k') q2 q3).ext fun j => ?_
    have e3 := e2 j
    show a' * (a * v 0 l j - k * v 0 (clr l bs) j) + k * k' * v 0 o j = a * a' * v 0 l j - k * g * v 0 (next (clr l bs) c o) j
    rw [Int.mul_assoc k g, e3, Int.mul_sub, Int.mul_sub]
    have r1 : a' * (a * v 0 l j) = a * a' * v 0 l j := by rw [← Int.mul_assoc, Int.mul_comm a' a]
    have r2 : a' * (k * v 0 (clr l bs) j) = k * (a' * v 0 (clr l bs) j) := by rw [← Int.mul_assoc, Int.mul_comm a' k, Int.mul_assoc]
    have r3 : k * (k' * v 0 o j) = k * k' * v 0 o j := by rw [Int.mul_assoc]
    rw [r1, r2, r3]
    omega
theorem vw_lin (w : Nat) {x y z : IRow} {a k g : Int} (h : ∀ j, g * z.getD j 0 = a * x.getD j 0 - k * y.getD j 0) (j : Nat) : g * vw w z j = a * vw w x j - k * vw w y j := by
  unfold vw
  by_cases hj : j < w
  · rw [if_pos hj, if_pos hj, if_pos hj]; exact h j
  · rw [if_neg hj, if_neg hj, if_neg hj]; simp
theorem clr_vw {m w : Nat} {bs : Bas} (h : Ech m w bs) {l : IRow} (hl : l.length = m) (u : Nat) : ∃ a c : Int, a ≠ 0 ∧ c ≠ 0 ∧ Co (vws u (bs.map (·.2))) fun j => a * vw u l j - c * vw u (clr l bs) j := by
  obtain ⟨a, c, ha, hc, q⟩ := clr_co h hl (fun _ => vw u) fun x y z a k g e j => vw_lin u e j
  exact ⟨a, c, ha, hc, by unfold vws; rw [List.map_map]; exact q⟩
/-! ### lines parted -/
/-- the last of the first w columns that has no zero -/
def lead (w : Nat) (l : IRow) : Option Nat := (List.range w).reverse.find? fun j => l.getD j 0 != 0
theorem lead_some {w : Nat} {l : IRow} {c : Nat} (h : lead w l = some c) : c < w ∧ l.getD c 0 ≠ 0 ∧ ∀ j, c < j → j < w → l.getD j 0 = 0 := by
  unfold lead at h
  rw [List.find?_eq_some_iff_append] at h
  obtain ⟨h1, as, bs, h2, h3⟩ := h
  have hc : c ∈ (List.range w).reverse := by rw [h2]; simp
  refine ⟨by simpa using hc, by simpa using h1, fun j hj hw => ?_⟩
  have e : List.range w = bs.reverse ++ c :: as.reverse := by
    have := congrArg List.reverse h2
    rw [List.reverse_reverse] at this
    rw [this]
    simp
  have hb : bs.reverse.length = c := by
    have h4 : (List.range w)[bs.reverse.length]? = some c := by rw [e]; simp
    rw [List.getElem?_eq_some_iff] at h4
    obtain ⟨h5, h6⟩ := h4
    rw [List.getElem_range] at h6
    exact h6
  have hm : j ∈ as := by
    have h7 : (List.range w)[j]? = some j := List.getElem?_range hw
    rw [e, List.getElem?_append_right (by omega), hb] at h7
    obtain ⟨d, hd⟩ : ∃ d, j - c = d + 1 := ⟨j - c - 1, by omega⟩
    rw [hd, List.getElem?_cons_succ] at h7
    exact List.mem_reverse.mp (List.mem_of_getElem? h7)
  have := h3 j hm
  simpa using this
theorem lead_none {w : Nat} {l : IRow} (h : lead w l = none) : ∀ j, j < w → l.getD j 0 = 0 := fun j hj => by
  unfold lead at h
  rw [List.find?_eq_none] at h
  have := h j (by simpa using hj)
  simpa using this
def part (w : Nat) : List IRow → Bas → List IRow → Bas × List IRow
  | [], bs, rs => (bs, rs)
  | l :: ls, bs, rs => match lead w (clr l bs) with
    | none => part w ls bs (rs ++ [clr l bs])
    | some c => part w ls (bs ++ [(c, clr l bs)]) rs
theorem part_none {w : Nat} {k : IRow} {bs : Bas} {rs : List IRow} (e : lead w (clr k bs) = none) (xs : List IRow) : part w (k :: xs) bs rs = part w xs bs (rs ++ [clr k bs]) := by
  show (match lead w (clr k bs) with | none => part w xs bs (rs ++ [clr k bs]) | some c => part w xs (bs ++ [(c, clr k bs)]) rs) = _
  rw [e]
theorem part_some {w : Nat} {k : IRow} {bs : Bas} {rs : List IRow} {c : Nat} (e : lead w (clr k bs) = some c) (xs : List IRow) : part w (k :: xs) bs rs = part w xs (bs ++ [(c, clr k bs)]) rs := by
  show (match lead w (clr k bs) with | none => part w xs bs (rs ++ [clr k bs]) | some c => part w xs (bs ++ [(c, clr k bs)]) rs) = _
  rw [e]
theorem part_snoc (w : Nat) : ∀ (ls : List IRow) (l : IRow) (bs : Bas) (rs : List IRow), part w (ls ++ [l]) bs rs = part w [l] (part w ls bs rs).1 (part w ls bs rs).2
  | [], l, bs, rs => rfl
  | k :: ls, l, bs, rs => by
    rw [List.cons_append]
    cases e : lead w (clr k bs) with
    | none =>
      have h1 : ∀ xs, part w (k :: xs) bs rs = part w xs bs (rs ++ [clr k bs]) := fun xs => part_none e xs
      rw [h1, h1]
      exact part_snoc w ls l bs _
    | some c =>
      have h1 : ∀ xs, part w (k :: xs) bs rs = part w xs (bs ++ [(c, clr k bs)]) rs := fun xs => part_some e xs
      rw [h1, h1]
      exact part_snoc w ls l _ rs
theorem Ech.add {m w : Nat} {bs : Bas} (h : Ech m w bs) {l : IRow} (hl : l.length = m) {c : Nat} (hc : lead w (clr l bs) = some c) : Ech m w (bs ++ [(c, clr l bs)]) := by
  obtain ⟨h1, h2, h3⟩ := lead_some hc
  exact .snoc h (by rw [clr_len fun p hp => by rw [(h.facts.2 p hp).1, hl]]; exact hl) h1 h2 h3 (clr_zero h hl)
/-- what part keeps -/
structure PartI (m w : Nat) (done : List IRow) (bs : Bas) (rs : List IRow) : Prop where
  ech : Ech m w bs
  sub : ∀ p ∈ bs, Co (vws w done) (vw w p.2)
  span : ∀ l ∈ done, Co (vws w (bs.map (·.2))) (vw w l)
  many : bs.length + rs.length = done.length
  rest : ∀ r ∈ rs, r.length = m ∧ ∀ j, j < w → r.getD j 0 = 0
theorem PartI.nil {m w : Nat} : PartI m w [] [] [] := ⟨.nil, fun p hp => (by cases hp), fun p hp => (by cases hp), rfl, fun p hp => (by cases hp)⟩
theorem co_more {w : Nat} {rs : List IRow} {v : Vec} (ss : List IRow) (h : Co (vws w rs) v) : Co (vws w (rs ++ ss)) v := Co.trans (fun c hc => by
  obtain ⟨x, hx, rfl⟩ := List.mem_map.mp hc
  exact co_mem (List.mem_append_left _ hx)) h
theorem PartI.step {m w : Nat} {done : List IRow} {bs : Bas} {rs : List IRow} (h : PartI m w done bs rs) {l : IRow} (hl : l.length = m) : PartI m w (done ++ [l]) (part w [l] bs rs).1 (part w [l] bs rs).2 := by
  obtain ⟨a, c, ha, hc, q⟩ := clr_vw h.ech hl w
  have len : (clr l bs).length = m := by rw [clr_len fun p hp => by rw [(h.ech.facts.2 p hp).1, hl]]; exact hl
  cases e : lead w (clr l bs) with
  | none =>
    have z := lead_none e
    rw [part_none e]
    refine ⟨h.ech, fun p hp => co_more _ (h.sub p hp), fun x hx => ?_, ?_, fun r hr => ?_⟩
    · rcases List.mem_append.mp hx with hx | hx
      · exact h.span x hx
      · obtain rfl := List.mem_singleton.mp hx
        refine Co.div ha (q.ext fun j => ?_)
        have : vw w (clr x bs) j = 0 := by
          unfold vw
          by_cases hj : j < w
          · rw [if_pos hj]; exact z j hj
          · rw [if_neg hj]
        rw [this, Int.mul_zero, Int.sub_zero]
    · show bs.length + (rs ++ [clr l bs]).length = (done ++ [l]).length
      rw [List.length_append, List.length_append, ← h.many]
      simp
      omega
    · rcases List.mem_append.mp hr with hr | hr
      · exact h.rest r hr
      · obtain rfl := List.mem_singleton.mp hr
        exact ⟨len, z⟩
  | some k =>
    have own : Co (vws w (done ++ [l])) (vw w (clr l bs)) := by
      have q1 : Co (vws w (done ++ [l])) fun j => a * vw w l j - c * vw w (clr l bs) j := Co.trans (fun x hx => by
        obtain ⟨y, hy, rfl⟩ := List.mem_map.mp hx
        obtain ⟨p, hp, rfl⟩ := List.mem_map.mp hy
        exact co_more _ (h.sub p hp)) q
      have q2 : Co (vws w (done ++ [l])) (vw w l) := co_mem (by simp)
      refine Co.div hc ((Co.comb a (-1) q2 q1).ext fun j => ?_)
      show a * vw w l j + -1 * (a * vw w l j - c * vw w (clr l bs) j) = c * vw w (clr l bs) j
      omega
    have e2 : (bs ++ [(k, clr l bs)]).map (·.2) = bs.map (·.2) ++ [clr l bs] := by rw [List.map_append] <;> rfl
    rw [part_some e]
    refine ⟨h.ech.add hl e, fun p hp => ?_, fun x hx => ?_, ?_, h.rest⟩
    · rcases List.mem_append.mp hp with hp | hp
      · exact co_more _ (h.sub p hp)
      · obtain rfl := List.mem_singleton.mp hp
        exact own
    · show Co (vws w ((bs ++ [(k, clr l bs)]).map (·.2))) (vw w x)
      rw [e2]
      rcases List.mem_append.mp hx with hx | hx
      · exact co_more _ (h.span x hx)
      · obtain rfl := List.mem_singleton.mp hx
        have q2 : Co (vws w (bs.map (·.2) ++ [clr x bs])) (vw w (clr x bs)) := co_mem (by simp)
        refine Co.div ha ((Co.comb 1 c (co_more [clr x bs] q) q2).ext fun j => ?_)
        show 1 * (a * vw w x j - c * vw w (clr x bs) j) + c * vw w (clr x bs) j = a * vw w x j
        omega
    · show (bs ++ [(k, clr l bs)]).length + rs.length = (done ++ [l]).length
      rw [List.length_append, List.length_append, ← h.many]
      simp
      omega
theorem part_I {m w : Nat} (ls : List IRow) (hl : ∀ l ∈ ls, l.length = m) : PartI m w ls (part w ls [] []).1 (part w ls [] []).2 := by
  have key : ∀ n, n ≤ ls.length → PartI m w (ls.take n) (part w (ls.take n) [] []).1 (part w (ls.take n) [] []).2 := fun n => by
    induction n with
    | zero => intro _; rw [List.take_zero]; exact .nil
    | succ n ih =>
      intro hn
      have hx : ls[n]? = some ls[n] := List.getElem?_eq_getElem (by omega)
      rw [List.take_add_one, hx]
      show PartI m w (ls.take n ++ [ls[n]]) (part w (ls.take n ++ [ls[n]]) [] []).1 (part w (ls.take n ++ [ls[n]]) [] []).2
      rw [part_snoc]
      exact (ih (by omega)).step (hl _ (List.getElem_mem _))
  have := key ls.length (Nat.le_refl _)
  rw [List.take_length] at this
  exact this
theorem PartI.isRk {m w : Nat} {ls : List IRow} {bs : Bas} {rs : List IRow} (h : PartI m w ls bs rs) : IsRk w ls bs.length := by
  refine ⟨fun i j => j < i, fun i j hij => by omega, fun i j k h1 h2 => by omega, bs.map fun p => (p.1, vw w p.2), ⟨?_, ?_, ?_, ?_⟩, by simp⟩
  · rw [List.map_map]
    exact h.ech.facts.1
  · intro p hp
    obtain ⟨q, hq, rfl⟩ := List.mem_map.mp hp
    obtain ⟨f1, f2, f3, f4⟩ := h.ech.facts.2 q hq
    refine ⟨by show vw w q.2 q.1 ≠ 0; unfold vw; rw [if_pos f2]; exact f3, fun i hi => ?_⟩
    show vw w q.2 i = 0
    unfold vw
    by_cases hw : i < w
    · rw [if_pos hw]; exact f4 i hi hw
    · rw [if_neg hw]
  · intro p hp
    obtain ⟨q, hq, rfl⟩ := List.mem_map.mp hp
    exact h.sub q hq
  · intro v hv
    obtain ⟨x, hx, rfl⟩ := List.mem_map.mp hv
    have := h.span x hx
    unfold vws at this
    rw [List.map_map] at this
    rw [List.map_map]
    exact this
/-- the rank of rows, by their first w columns -/
def rkF (w : Nat) (rs : List IRow) : Nat := (part w rs [] []).1.length
theorem rkF_is {m w : Nat} {rs : List IRow} (h : ∀ r ∈ rs, r.length = m) : IsRk w rs (rkF w rs) := (part_I rs h).isRk
theorem nodup_len : ∀ (w : Nat) (l : List Nat), l.Nodup → (∀ x ∈ l, x < w) → l.length ≤ w
  | 0, l, _, h => by
    cases l with
    | nil => exact Nat.le_refl _
    | cons x l => exact absurd (h x List.mem_cons_self) (Nat.not_lt_zero _)
  | w + 1, l, nd, h => by
    have ih := nodup_len w (l.erase w) (nd.erase w) fun x hx => by
      have h1 := h x (List.mem_of_mem_erase hx)
      have h2 : x ≠ w := fun e => by
        subst e
        exact (List.Nodup.mem_erase_iff nd).mp hx |>.1 rfl
      omega
    by_cases hm : w ∈ l
    · rw [List.length_erase_of_mem hm] at ih
      omega
    · rw [List.erase_of_not_mem hm] at ih
      omega
theorem Ech.len {m w : Nat} {bs : Bas} (h : Ech m w bs) : bs.length ≤ w := by
  have := h.facts
  have n := nodup_len w (bs.map (·.1)) this.1 fun x hx => by
    obtain ⟨p, hp, rfl⟩ := List.mem_map.mp hx
    exact (this.2 p hp).2.1
  simpa using n
/-! ### how great the numbers grow -/
def top : Nat := 8990
def ClrOk : IRow → Bas → Prop
  | _, [] => True
  | l, (c, o) :: r => Bd top l ∧ Bd top o ∧ (l.getD c 0 ≠ 0 → Bd top (comb (o.getD c 0) (l.getD c 0) l o)) ∧ ClrOk (next l c o) r
def PartOk (w : Nat) : List IRow → Bas → Prop
  | [], _ => True
  | l :: ls, bs => ClrOk l bs ∧ PartOk w ls (part w [l] bs []).1
def gr (n i : Nat) : Nat := (n + 1) * 2 ^ i - 1
theorem gr_succ (n i : Nat) : gr n (i + 1) = gr n i + gr n i + 1 := by
  unfold gr
  have : 0 < (n + 1) * 2 ^ i := Nat.mul_pos (by omega) (Nat.pow_pos (by decide))
  rw [Nat.pow_succ, ← Nat.mul_assoc]
  omega
theorem gr_mono (n : Nat) {i j : Nat} (h : i ≤ j) : gr n i ≤ gr n j := by
  unfold gr
  exact Nat.sub_le_sub_right (Nat.mul_le_mul_left _ (Nat.pow_le_pow_right (by decide) h)) 1
theorem clr_bd {n : Nat} : ∀ {bs : Bas} {i : Nat} {l : IRow}, Bd (gr n i) l → (∀ (j : Nat) (p : Nat × IRow), bs[j]? = some p → Bd (gr n (i + j)) p.2) → gr n (i + bs.length) ≤ top → ClrOk l bs ∧ Bd (gr n (i + bs.length)) (clr l bs)
  | [], i, l, hl, _, _ => ⟨trivial, hl⟩
  | (c, o) :: bs, i, l, hl, hb, ht => by
    have ho : Bd (gr n i) o := hb 0 (c, o) rfl
    have hq : Bd (gr n (i + 1)) (comb (o.getD c 0) (l.getD c 0) l o) := by
      rw [gr_succ]
      exact comb_bd hl ho (ho.getD c) (hl.getD c)
    have e1 : i + ((c, o) :: bs).length = i + 1 + bs.length := by rw [List.length_cons]; omega
    rw [e1] at ht ⊢
    have hn : Bd (gr n (i + 1)) (next l c o) := by
      unfold next
      split
      · exact hl.mono (gr_mono n (by omega))
      · exact shortF_bd hq
    obtain ⟨r1, r2⟩ := clr_bd hn (fun j p hj => by
      have := hb (j + 1) p (by simpa using hj)
      rw [show i + (j + 1) = i + 1 + j by omega] at this
      exact this) ht
    have t1 : gr n (i + 1) ≤ top := Nat.le_trans (gr_mono n (by omega)) ht
    have t0 : gr n i ≤ top := Nat.le_trans (gr_mono n (by omega)) ht
    exact ⟨⟨hl.mono t0, ho.mono t0, fun _ => hq.mono t1, r1⟩, r2⟩
theorem part_rests (w : Nat) (l : IRow) (bs : Bas) (rs : List IRow) : (part w [l] bs rs).1 = (part w [l] bs []).1 := by
  cases e : lead w (clr l bs) with
  | none => rw [part_none e, part_none e] <;> rfl
  | some c => rw [part_some e, part_some e] <;> rfl
theorem part_ok {m w n : Nat} : ∀ {ls : List IRow} {bs : Bas}, Ech m w bs → (∀ l ∈ ls, l.length = m ∧ Bd n l) → (∀ (j : Nat) (p : Nat × IRow), bs[j]? = some p → Bd (gr n j) p.2) → gr n w ≤ top → PartOk w ls bs
  | [], bs, _, _, _, _ => trivial
  | l :: ls, bs, he, hl, hb, ht => by
    obtain ⟨l1, l2⟩ := hl l List.mem_cons_self
    have g0 : gr n 0 = n := by unfold gr; simp
    have hbl := he.len
    obtain ⟨c1, c2⟩ := clr_bd (bs := bs) (i := 0) (by rw [g0]; exact l2) (fun j p hj => by rw [Nat.zero_add]; exact hb j p hj) (Nat.le_trans (gr_mono n (by omega)) ht)
    rw [Nat.zero_add] at c2
    refine ⟨c1, ?_⟩
    cases e : lead w (clr l bs) with
    | none =>
      rw [part_none e]
      exact part_ok he (fun x hx => hl x (List.mem_cons_of_mem _ hx)) hb ht
    | some c =>
      rw [part_some e]
      refine part_ok (he.add l1 e) (fun x hx => hl x (List.mem_cons_of_mem _ hx)) (fun j p hj => ?_) ht
      have hj : (bs ++ [(c, clr l bs)])[j]? = some p := hj
      by_cases hj2 : j < bs.length
      · rw [List.getElem?_append_left hj2] at hj
        exact hb j p hj
      · rw [List.getElem?_append_right (by omega)] at hj
        have hj3 : j = bs.length := by
          have := (List.getElem?_eq_some_iff.mp hj).1
          simp at this
          omega
        subst hj3
        rw [Nat.sub_self] at hj
        cases hj
        exact c2
end MX

/-! the rank of rows by clearing column after column -/
namespace MX
open RK
def nextA (o : IRow) (c : Nat) (l : IRow) : IRow := shortF (comb (o.getD c 0) (l.getD c 0) l o)
theorem nextA_co {l o : IRow} {c : Nat} (h : l.length = o.length) : ∃ g : Int, g ≠ 0 ∧ ∀ j, g * (nextA o c l).getD j 0 = o.getD c 0 * l.getD j 0 - l.getD c 0 * o.getD j 0 := by
  obtain ⟨g, hg, e⟩ := shortF_co (comb (o.getD c 0) (l.getD c 0) l o)
  exact ⟨g, hg, fun j => by unfold nextA; rw [e, comb_getD h]⟩
structure LR (n m : Nat) (rs : List IRow) (c : Nat) (ls : List IRow) (f : Nat) (ps : List Nat) : Prop where
  len : ls.length = rs.length
  wid : ∀ x ∈ ls, x.length = m
  fl : f ≤ ls.length
  pl : ps.length = f
  nd : ps.Nodup
  plt : ∀ p ∈ ps, p < c
  ld : ∀ (i p : Nat) (x : IRow), ps[i]? = some p → ls[i]? = some x → x.getD p 0 ≠ 0 ∧ ∀ j, j < p → x.getD j 0 = 0
  zr : ∀ (i : Nat) (x : IRow), f ≤ i → ls[i]? = some x → ∀ j, j < c → x.getD j 0 = 0
  sub : ∀ x ∈ ls, Co (vws m rs) (vw m x)
  span : ∀ x ∈ rs, Co (vws m ls) (vw m x)
  bd : ∀ x ∈ ls, Bd (gr n c) x
  bdf : ∀ x ∈ ls, Bd (gr n f) x
theorem LR.start {n m : Nat} {rs : List IRow} (h : ∀ x ∈ rs, x.length = m ∧ Bd n x) : LR n m rs 0 rs 0 [] where
  len := rfl
  wid := fun x hx => (h x hx).1
  fl := Nat.zero_le _
  pl := rfl
  nd := List.nodup_nil
  plt := fun p hp => (by cases hp)
  ld := fun i p x e => (by simp at e)
  zr := fun i x _ _ j hj => absurd hj (Nat.not_lt_zero _)
  sub := fun x hx => co_mem hx
  span := fun x hx => co_mem hx
  bd := fun x hx => by
    have : gr n 0 = n := by unfold gr; simp
    rw [this]; exact (h x hx).2
  bdf := fun x hx => by
    have : gr n 0 = n := by unfold gr; simp
    rw [this]; exact (h x hx).2
theorem LR.skip {n m c f : Nat} {rs ls : List IRow} {ps : List Nat} (h : LR n m rs c ls f ps) (z : ∀ (i : Nat) (x : IRow), f ≤ i → ls[i]? = some x → x.getD c 0 = 0) : LR n m rs (c + 1) ls f ps :=
  { h with
    plt := fun p hp => Nat.lt_succ_of_lt (h.plt p hp)
    zr := fun i x hi e j hj => by
      by_cases q : j < c
      · exact h.zr i x hi e j q
      · rw [show j = c by omega]; exact z i x hi e
    bd := fun x hx => (h.bd x hx).mono (gr_mono n (by omega)) }
/-- the rows behind the head, without it -/
def tail (ls : List IRow) (k f : Nat) : List IRow := (ls.eraseIdx k).drop f
theorem mem_tail {ls : List IRow} {k f : Nat} (hk : f ≤ k) {x : IRow} (h : x ∈ tail ls k f) : ∃ i, f ≤ i ∧ ls[i]? = some x := by
  obtain ⟨j, hj⟩ := List.getElem?_of_mem h
  unfold tail at hj
  rw [List.getElem?_drop, List.getElem?_eraseIdx] at hj
  split at hj
  · exact ⟨f + j, by omega, hj⟩
  · exact ⟨f + j + 1, by omega, hj⟩
theorem take_erase {ls : List IRow} {k f : Nat} (hk : f ≤ k) : (ls.eraseIdx k).take f = ls.take f := by
  apply List.ext_getElem?
  intro i
  rw [List.getElem?_take, List.getElem?_take]
  by_cases hi : i < f
  · rw [if_pos hi, if_pos hi, List.getElem?_eraseIdx, if_pos (by omega)]
  · rw [if_neg hi, if_neg hi]
theorem all_in {ls : List IRow} {k f : Nat} {h : IRow} (hk : f ≤ k) (e : ls[k]? = some h) {x : IRow} (hx : x ∈ ls) : x ∈ ls.take f ∨ x = h ∨ x ∈ tail ls k f := by
  obtain ⟨i, hi⟩ := List.getElem?_of_mem hx
  by_cases h1 : i < f
  · left
    have : (ls.take f)[i]? = some x := by rw [List.getElem?_take, if_pos h1]; exact hi
    exact List.mem_of_getElem? this
  · by_cases h2 : i = k
    · subst h2
      right; left
      rw [e] at hi
      exact (Option.some.inj hi).symm
    · right; right
      by_cases h3 : i < k
      · have : (tail ls k f)[i - f]? = some x := by
          unfold tail
          rw [List.getElem?_drop, List.getElem?_eraseIdx, show f + (i - f) = i by omega, if_pos h3]; exact hi
        exact List.mem_of_getElem? this
      · have : (tail ls k f)[i - 1 - f]? = some x := by
          unfold tail
          rw [List.getElem?_drop, List.getElem?_eraseIdx, show f + (i - 1 - f) = i - 1 by omega, if_neg (by omega), show i - 1 + 1 = i by omega]; exact hi
        exact List.mem_of_getElem? this
theorem LR.step {n m c f k : Nat} {rs ls : List IRow} {ps : List Nat} {hd : IRow} (h : LR n m rs c ls f ps) (hk : f ≤ k) (e : ls[k]? = some hd) (nz : hd.getD c 0 ≠ 0) :
    LR n m rs (c + 1) (ls.take f ++ [hd] ++ (tail ls k f).map (nextA hd c)) (f + 1) (ps ++ [c]) := by
  have hkl : k < ls.length := (List.getElem?_eq_some_iff.mp e).1
  have hm : hd ∈ ls := List.mem_of_getElem? e
  have hw : hd.length = m := h.wid _ hm
  have tl : (tail ls k f).length = ls.length - 1 - f := by unfold tail; rw [List.length_drop, List.length_eraseIdx_of_lt hkl]
  have tkl : (ls.take f).length = f := by rw [List.length_take]; omega
  have tin : ∀ x ∈ tail ls k f, x ∈ ls := fun x hx => by
    obtain ⟨i, _, hi⟩ := mem_tail hk hx
    exact List.mem_of_getElem? hi
  have tkin : ∀ x ∈ ls.take f, x ∈ ls := fun x hx => List.mem_of_mem_take hx
  have cases3 : ∀ x ∈ ls.take f ++ [hd] ++ (tail ls k f).map (nextA hd c), x ∈ ls.take f ∨ x = hd ∨ ∃ y ∈ tail ls k f, x = nextA hd c y := fun x hx => by
    rcases List.mem_append.mp hx with hx | hx
    · rcases List.mem_append.mp hx with hx | hx
      · exact .inl hx
      · exact .inr (.inl (List.mem_singleton.mp hx))
    · obtain ⟨y, hy, rfl⟩ := List.mem_map.mp hx
      exact .inr (.inr ⟨y, hy, rfl⟩)
  have inT : ∀ x ∈ ls.take f, x ∈ ls.take f ++ [hd] ++ (tail ls k f).map (nextA hd c) := fun x hx => List.mem_append_left _ (List.mem_append_left _ hx)
  have inH : hd ∈ ls.take f ++ [hd] ++ (tail ls k f).map (nextA hd c) := List.mem_append_left _ (List.mem_append_right _ (by simp))
  have inN : ∀ y ∈ tail ls k f, nextA hd c y ∈ ls.take f ++ [hd] ++ (tail ls k f).map (nextA hd c) := fun y hy => List.mem_append_right _ (List.mem_map.mpr ⟨y, hy, rfl⟩)
  have at1 : ∀ (i : Nat) (x : IRow), i < f → (ls.take f ++ [hd] ++ (tail ls k f).map (nextA hd c))[i]? = some x → ls[i]? = some x := fun i x hi q => by
    rw [List.append_assoc, List.getElem?_append_left (by omega), List.getElem?_take, if_pos hi] at q
    exact q
  have at2 : (ls.take f ++ [hd] ++ (tail ls k f).map (nextA hd c))[f]? = some hd := by
    rw [List.append_assoc, List.getElem?_append_right (by omega), tkl, Nat.sub_self] <;> rfl
  have at3 : ∀ (i : Nat) (x : IRow), f + 1 ≤ i → (ls.take f ++ [hd] ++ (tail ls k f).map (nextA hd c))[i]? = some x → ∃ y ∈ tail ls k f, x = nextA hd c y := fun i x hi q => by
    rw [List.getElem?_append_right (by rw [List.length_append, tkl]; exact hi), List.getElem?_map] at q
    cases z : (tail ls k f)[i - (ls.take f ++ [hd]).length]? with
    | none => rw [z] at q; cases q
    | some y => rw [z] at q; exact ⟨y, List.mem_of_getElem? z, (Option.some.inj q).symm⟩
  have nz2 : ∀ y ∈ tail ls k f, ∃ g : Int, g ≠ 0 ∧ ∀ j, g * (nextA hd c y).getD j 0 = hd.getD c 0 * y.getD j 0 - y.getD c 0 * hd.getD j 0 := fun y hy => nextA_co (by rw [hw, h.wid y (tin y hy)])
  refine ⟨?_, ?_, ?_, ?_, ?_, ?_, ?_, ?_, ?_, ?_, ?_, ?_⟩
  · rw [List.length_append, List.length_append, List.length_map, tkl, tl, ← h.len]
    simp
    omega
  · intro x hx
    rcases cases3 x hx with q | rfl | ⟨y, hy, rfl⟩
    · exact h.wid x (tkin x q)
    · exact hw
    · unfold nextA
      rw [shortF_len, comb_len (by rw [hw, h.wid y (tin y hy)]), h.wid y (tin y hy)]
  · rw [List.length_append, List.length_append, tkl]
    simp
  · rw [List.length_append, h.pl] <;> rfl
  · rw [List.nodup_append]
    refine ⟨h.nd, by simp, fun a ha b hb => ?_⟩
    have := h.plt a ha
    have e2 : b = c := by simpa using hb
    omega
  · intro p hp
    rcases List.mem_append.mp hp with hp | hp
    · have := h.plt p hp; omega
    · have e2 : p = c := by simpa using hp
      omega
  · intro i p x e1 e2
    by_cases hi : i < f
    · rw [List.getElem?_append_left (by rw [h.pl]; exact hi)] at e1
      exact h.ld i p x e1 (at1 i x hi e2)
    · rw [List.getElem?_append_right (by rw [h.pl]; omega), h.pl] at e1
      have hi2 : i = f := by
        have := (List.getElem?_eq_some_iff.mp e1).1
        simp at this
        omega
      subst hi2
      rw [Nat.sub_self] at e1
      cases e1
      rw [at2] at e2
      cases e2
      exact ⟨nz, fun j hj => h.zr k _ hk e j hj⟩
  · intro i x hi e1 j hj
    obtain ⟨y, hy, rfl⟩ := at3 i x hi e1
    obtain ⟨g, hg, q⟩ := nz2 y hy
    have q2 := q j
    have : hd.getD c 0 * y.getD j 0 - y.getD c 0 * hd.getD j 0 = 0 := by
      by_cases hjc : j < c
      · obtain ⟨i2, hi2, e3⟩ := mem_tail hk hy
        rw [h.zr k _ hk e j hjc, h.zr i2 _ hi2 e3 j hjc]
        simp
      · rw [show j = c by omega, Int.mul_comm]
        omega
    rw [this] at q2
    exact (Int.mul_eq_zero.mp q2).resolve_left hg
  · intro x hx
    rcases cases3 x hx with q | rfl | ⟨y, hy, rfl⟩
    · exact h.sub x (tkin x q)
    · exact h.sub _ hm
    · obtain ⟨g, hg, q⟩ := nz2 y hy
      refine Co.div hg ((Co.comb (hd.getD c 0) (-(y.getD c 0)) (h.sub y (tin y hy)) (h.sub hd hm)).ext fun j => ?_)
      rw [vw_lin m q j, Int.neg_mul]
      omega
  · intro x hx
    refine Co.trans (fun v hv => ?_) (h.span x hx)
    obtain ⟨z, hz, rfl⟩ := List.mem_map.mp hv
    rcases all_in hk e hz with q | rfl | q
    · exact co_mem (inT z q)
    · exact co_mem inH
    · obtain ⟨g, hg, q2⟩ := nz2 z q
      refine Co.div nz ((Co.comb g (z.getD c 0) (co_mem (inN z q)) (co_mem inH)).ext fun j => ?_)
      rw [vw_lin m q2 j]
      omega
  · intro x hx
    have mono : ∀ y ∈ ls, Bd (gr n (c + 1)) y := fun y hy => (h.bd y hy).mono (gr_mono n (by omega))
    rcases cases3 x hx with q | rfl | ⟨y, hy, rfl⟩
    · exact mono x (tkin x q)
    · exact mono _ hm
    · unfold nextA
      refine shortF_bd ?_
      rw [gr_succ]
      exact comb_bd (h.bd y (tin y hy)) (h.bd hd hm) ((h.bd hd hm).getD c) ((h.bd y (tin y hy)).getD c)
  · intro x hx
    have mono : ∀ y ∈ ls, Bd (gr n (f + 1)) y := fun y hy => (h.bdf y hy).mono (gr_mono n (by omega))
    rcases cases3 x hx with q | rfl | ⟨y, hy, rfl⟩
    · exact mono x (tkin x q)
    · exact mono _ hm
    · unfold nextA
      refine shortF_bd ?_
      rw [gr_succ]
      exact comb_bd (h.bdf y (tin y hy)) (h.bdf hd hm) ((h.bdf hd hm).getD c) ((h.bdf y (tin y hy)).getD c)
theorem LR.isRk {n m f : Nat} {rs ls : List IRow} {ps : List Nat} (h : LR n m rs m ls f ps) : IsRk m rs f := by
  have zl : (ps.zip ls).length = f := by rw [List.length_zip, h.pl]; have := h.fl; omega
  have inz : ∀ p ∈ ps.zip ls, ∃ i : Nat, ps[i]? = some p.1 ∧ ls[i]? = some p.2 := fun p hp => by
    obtain ⟨i, hi⟩ := List.getElem?_of_mem hp
    rw [List.getElem?_zip_eq_some] at hi
    exact ⟨i, hi⟩
  have fst : (ps.zip ls).map (·.1) = ps := by rw [List.map_fst_zip (by rw [h.pl]; exact h.fl)]
  refine ⟨fun i j => i < j, fun i j q => by omega, fun i j k q1 q2 => by omega, (ps.zip ls).map fun p => (p.1, vw m p.2), ⟨?_, ?_, ?_, ?_⟩, by rw [List.length_map, zl]⟩
  · rw [List.map_map]
    show ((ps.zip ls).map (·.1)).Nodup
    rw [fst]; exact h.nd
  · intro p hp
    obtain ⟨q, hq, rfl⟩ := List.mem_map.mp hp
    obtain ⟨i, e1, e2⟩ := inz q hq
    obtain ⟨h1, h2⟩ := h.ld i _ _ e1 e2
    have hlt := h.plt _ (List.mem_of_getElem? e1)
    refine ⟨by show vw m q.2 q.1 ≠ 0; unfold vw; rw [if_pos hlt]; exact h1, fun j hj => ?_⟩
    show vw m q.2 j = 0
    unfold vw
    rw [if_pos (show j < m from Nat.lt_trans hj hlt)]
    exact h2 j hj
  · intro p hp
    obtain ⟨q, hq, rfl⟩ := List.mem_map.mp hp
    obtain ⟨i, _, e2⟩ := inz q hq
    exact h.sub _ (List.mem_of_getElem? e2)
  · intro v hv
    obtain ⟨x, hx, rfl⟩ := List.mem_map.mp hv
    refine Co.trans (fun u hu => ?_) (h.span x hx)
    obtain ⟨z, hz, rfl⟩ := List.mem_map.mp hu
    obtain ⟨i, hi⟩ := List.getElem?_of_mem hz
    by_cases hf : i < f
    · have hfp : i < ps.length := by rw [h.pl]; exact hf
      have e1 : ps[i]? = some ps[i] := List.getElem?_eq_getElem hfp
      refine Co.mem ?_
      rw [List.map_map]
      refine List.mem_map.mpr ⟨(ps[i], z), ?_, rfl⟩
      refine List.mem_of_getElem? (i := i) ?_
      rw [List.getElem?_zip_eq_some]
      exact ⟨e1, hi⟩
    · refine (Co.zero _).ext fun j => ?_
      unfold vw
      by_cases hj : j < m
      · rw [if_pos hj]; exact (h.zr i z (by omega) hi j hj).symm
      · rw [if_neg hj]
/-- rkF is what the clearing finds -/
theorem rk_of {m r : Nat} {rs : List IRow} (h : ∀ x ∈ rs, x.length = m) (k : IsRk m rs r) : rkF m rs = r := (rkF_is h).same k fun _ => Iff.rfl
theorem rkF_same {m : Nat} {rs rs' : List IRow} (h : ∀ x ∈ rs, x.length = m) (h' : ∀ x ∈ rs', x.length = m) (e : ∀ x, x ∈ rs ↔ x ∈ rs') : rkF m rs = rkF m rs' := (rkF_is h).same (rkF_is h') e
theorem rkF_span {m : Nat} {rs rs' : List IRow} (h : ∀ x ∈ rs, x.length = m) (h' : ∀ x ∈ rs', x.length = m) (a : ∀ x ∈ rs, Co (vws m rs') (vw m x)) (c : ∀ x ∈ rs', Co (vws m rs) (vw m x)) : rkF m rs = rkF m rs' := (rkF_is h).eq (rkF_is h') a c
end MX

namespace MX
open RK
/-! lines that tell how they were made: what is kept by clearing -/
/-- a property that is kept by what clearing does -/
def Kept (Pd : IRow → Prop) : Prop := ∀ (x y z : IRow) (a k g : Int), g ≠ 0 → (∀ j, g * z.getD j 0 = a * x.getD j 0 - k * y.getD j 0) → Pd x → Pd y → Pd z
theorem clr_keep {Pd : IRow → Prop} (cl : Kept Pd) : ∀ {bs : Bas} {l : IRow}, (∀ p ∈ bs, p.2.length = l.length ∧ p.2.getD p.1 0 ≠ 0 ∧ Pd p.2) → Pd l → Pd (clr l bs)
  | [], _, _, hl => hl
  | (c, o) :: bs, l, h, hl => by
    obtain ⟨h1, h2, h3⟩ := h (c, o) List.mem_cons_self
    obtain ⟨a, k, g, _, hg, e⟩ := next_co (c := c) h1.symm h2
    have hn : (next l c o).length = l.length := next_len h1.symm
    show Pd (clr (next l c o) bs)
    exact clr_keep cl (fun p hp => by rw [hn]; exact h p (List.mem_cons_of_mem _ hp)) (cl _ _ _ _ _ _ hg e hl h3)
/-- a column in which no line of the basis has anything keeps what it has -/
theorem clr_own {q : Nat} : ∀ {bs : Bas} {l : IRow}, (∀ p ∈ bs, p.2.length = l.length ∧ p.2.getD p.1 0 ≠ 0 ∧ p.2.getD q 0 = 0) → l.getD q 0 ≠ 0 → (clr l bs).getD q 0 ≠ 0
  | [], _, _, hl => hl
  | (c, o) :: bs, l, h, hl => by
    obtain ⟨h1, h2, h3⟩ := h (c, o) List.mem_cons_self
    obtain ⟨a, k, g, ha, hg, e⟩ := next_co (c := c) h1.symm h2
    have hn : (next l c o).length = l.length := next_len h1.symm
    show (clr (next l c o) bs).getD q 0 ≠ 0
    refine clr_own (fun p hp => by rw [hn]; exact h p (List.mem_cons_of_mem _ hp)) fun z => ?_
    have := e q
    rw [z, h3, Int.mul_zero, Int.mul_zero, Int.sub_zero] at this
    exact (Int.mul_eq_zero.mp this.symm).elim ha hl
theorem part_keep {Pd : IRow → Prop} (cl : Kept Pd) {m w : Nat} : ∀ {ls : List IRow} {bs : Bas} {rs : List IRow}, (∀ l ∈ ls, l.length = m ∧ Pd l) → Ech m w bs → (∀ p ∈ bs, Pd p.2) → ∀ p ∈ (part w ls bs rs).1, Pd p.2
  | [], _, _, _, _, h => h
  | l :: ls, bs, rs, hl, he, h => by
    obtain ⟨h1, h2⟩ := hl l List.mem_cons_self
    have hc : Pd (clr l bs) := clr_keep cl (fun p hp => ⟨by rw [h1]; exact (he.facts.2 p hp).1, (he.facts.2 p hp).2.2.1, h p hp⟩) h2
    cases e : lead w (clr l bs) with
    | none =>
      rw [part_none e]
      exact part_keep cl (fun l hl' => hl l (List.mem_cons_of_mem _ hl')) he h
    | some c =>
      rw [part_some e]
      refine part_keep cl (fun l hl' => hl l (List.mem_cons_of_mem _ hl')) (he.add h1 e) fun p hp => ?_
      rcases List.mem_append.mp hp with hp | hp
      · exact h p hp
      · rw [List.mem_singleton.mp hp]; exact hc
theorem part_ech {m w : Nat} : ∀ {ls : List IRow} {bs : Bas} {rs : List IRow}, (∀ l ∈ ls, l.length = m) → Ech m w bs → Ech m w (part w ls bs rs).1
  | [], _, _, _, he => he
  | l :: ls, bs, rs, hl, he => by
    cases e : lead w (clr l bs) with
    | none =>
      rw [part_none e]
      exact part_ech (fun l hl' => hl l (List.mem_cons_of_mem _ hl')) he
    | some c =>
      rw [part_some e]
      exact part_ech (fun l hl' => hl l (List.mem_cons_of_mem _ hl')) (he.add (hl l List.mem_cons_self) e)
/-! sums -/
def sm : Nat → (Nat → Int) → Int
  | 0, _ => 0
  | n + 1, f => sm n f + f n
theorem sm_lin (a k g : Int) {x y z : Nat → Int} : ∀ {n : Nat}, (∀ i, i < n → g * z i = a * x i - k * y i) → g * sm n z = a * sm n x - k * sm n y
  | 0, _ => by show g * 0 = a * 0 - k * 0; omega
  | n + 1, h => by
    show g * (sm n z + z n) = a * (sm n x + x n) - k * (sm n y + y n)
    have h1 := sm_lin a k g (n := n) fun i hi => h i (by omega)
    have h2 := h n (by omega)
    rw [Int.mul_add, Int.mul_add, Int.mul_add, h1, h2]
    omega
theorem sm_congr {x y : Nat → Int} : ∀ {n : Nat}, (∀ i, i < n → x i = y i) → sm n x = sm n y
  | 0, _ => rfl
  | n + 1, h => by
    show sm n x + x n = sm n y + y n
    rw [sm_congr fun i hi => h i (by omega), h n (by omega)]
theorem sm_zero : ∀ {n : Nat} {x : Nat → Int}, (∀ i, i < n → x i = 0) → sm n x = 0
  | 0, _, _ => rfl
  | n + 1, x, h => by
    show sm n x + x n = 0
    rw [sm_zero fun i hi => h i (by omega), h n (by omega)] <;> rfl
theorem sm_one {i : Nat} {x : Nat → Int} : ∀ {n : Nat}, i < n → (∀ k, k < n → k ≠ i → x k = 0) → sm n x = x i
  | n + 1, hi, h => by
    show sm n x + x n = x i
    by_cases e : i = n
    · subst e
      rw [sm_zero fun k hk => h k (by omega) (by omega)]
      omega
    · rw [sm_one (i := i) (n := n) (by omega) fun k hk => h k (by omega), h n (by omega) (fun z => e z.symm)]
      omega
/-- the first w numbers are made of the rows and of x by the factors behind them -/
def Told (w n : Nat) (rs : List IRow) (x : IRow) (l : IRow) : Prop := ∀ j, j < w → l.getD j 0 = sm n (fun k => l.getD (w + k) 0 * (rs.getD k []).getD j 0) + l.getD (w + n) 0 * x.getD j 0
theorem told_kept {w n : Nat} {rs : List IRow} {x0 : IRow} : Kept (Told w n rs x0) := fun x y z a k g hg e hx hy j hj => by
  refine Int.eq_of_mul_eq_mul_left hg ?_
  have s := sm_lin a k g (n := n) (x := fun i => x.getD (w + i) 0 * (rs.getD i []).getD j 0) (y := fun i => y.getD (w + i) 0 * (rs.getD i []).getD j 0) (z := fun i => z.getD (w + i) 0 * (rs.getD i []).getD j 0) fun i _ => by
    show g * (z.getD (w + i) 0 * _) = a * (x.getD (w + i) 0 * _) - k * (y.getD (w + i) 0 * _)
    rw [← Int.mul_assoc, e, Int.sub_mul, Int.mul_assoc, Int.mul_assoc]
  rw [e, hx j hj, hy j hj, Int.mul_add a, Int.mul_add k, Int.mul_add g, s, ← Int.mul_assoc g, e, Int.sub_mul, Int.mul_assoc a, Int.mul_assoc k]
  omega
theorem col_kept {q : Nat} : Kept fun l => l.getD q 0 = 0 := fun x y z a k g hg e hx hy => by
  have := e q
  rw [hx, hy, Int.mul_zero, Int.mul_zero, Int.sub_self] at this
  exact (Int.mul_eq_zero.mp this).resolve_left hg
/-! the marked lines -/
def unitR (n i : Nat) : IRow := (List.range n).map fun j => if j = i then 1 else 0
def markR (rs : List IRow) : List IRow := rs.zipIdx.map fun p => p.1 ++ unitR rs.length p.2
def lineR (rs : List IRow) : List IRow := (markR rs).map fun l => l ++ [0]
def wantR (n : Nat) (x : IRow) : IRow := x ++ (List.replicate n 0 ++ [1])
theorem unitR_len (n i : Nat) : (unitR n i).length = n := by unfold unitR; rw [List.length_map, List.length_range]
theorem unitR_get {n i k : Nat} (h : k < n) : (unitR n i).getD k 0 = if k = i then 1 else 0 := by
  unfold unitR
  rw [List.getD_eq_getElem?_getD, List.getElem?_map, List.getElem?_range h] <;> rfl
theorem getD_left {a c : IRow} {j : Nat} (h : j < a.length) : (a ++ c).getD j 0 = a.getD j 0 := by
  rw [List.getD_eq_getElem?_getD, List.getElem?_append_left h, ← List.getD_eq_getElem?_getD]
theorem getD_right {a c : IRow} {j : Nat} : (a ++ c).getD (a.length + j) 0 = c.getD j 0 := by
  rw [List.getD_eq_getElem?_getD, List.getElem?_append_right (by omega), Nat.add_sub_cancel_left, ← List.getD_eq_getElem?_getD]
theorem vw_app {w : Nat} {r t : IRow} (h : r.length = w) : vw w (r ++ t) = vw w r := funext fun j => by
  unfold vw
  by_cases hj : j < w
  · rw [if_pos hj, if_pos hj, getD_left (by omega)]
  · rw [if_neg hj, if_neg hj]
theorem lineR_mem {rs : List IRow} {l : IRow} (h : l ∈ lineR rs) : ∃ i r, rs[i]? = some r ∧ l = (r ++ unitR rs.length i) ++ [0] := by
  obtain ⟨l1, h1, rfl⟩ := List.mem_map.mp h
  obtain ⟨p, h2, rfl⟩ := List.mem_map.mp h1
  obtain ⟨r, i⟩ := p
  rw [List.mk_mem_zipIdx_iff_getElem?] at h2
  exact ⟨i, r, h2, rfl⟩
theorem lineR_len {w : Nat} {rs : List IRow} (h : ∀ r ∈ rs, r.length = w) : ∀ l ∈ lineR rs, l.length = w + rs.length + 1 := fun l hl => by
  obtain ⟨i, r, e, rfl⟩ := lineR_mem hl
  rw [List.length_append, List.length_append, h r (List.mem_of_getElem? e), unitR_len] <;> rfl
theorem wantR_len {w n : Nat} {x : IRow} (h : x.length = w) : (wantR n x).length = w + n + 1 := by
  unfold wantR
  rw [List.length_append, List.length_append, List.length_replicate, h]; show w + (n + 1) = _; omega
theorem lineR_told {w : Nat} {rs : List IRow} {x : IRow} (h : ∀ r ∈ rs, r.length = w) : ∀ l ∈ lineR rs, Told w rs.length rs x l ∧ l.getD (w + rs.length) 0 = 0 := fun l hl => by
  obtain ⟨i, r, e, rfl⟩ := lineR_mem hl
  have hr := h r (List.mem_of_getElem? e)
  have hi := (List.getElem?_eq_some_iff.mp e).1
  have own : ((r ++ unitR rs.length i) ++ [0]).getD (w + rs.length) 0 = 0 := by
    have hl : (r ++ unitR rs.length i).length = w + rs.length := by rw [List.length_append, hr, unitR_len]
    have := getD_right (a := r ++ unitR rs.length i) (c := [0]) (j := 0)
    rw [hl] at this
    exact this
  refine ⟨fun j hj => ?_, own⟩
  rw [own, Int.zero_mul, Int.add_zero]
  have f : ∀ k, k < rs.length → ((r ++ unitR rs.length i) ++ [0]).getD (w + k) 0 = if k = i then 1 else 0 := fun k hk => by
    rw [getD_left (by rw [List.length_append, hr, unitR_len]; omega), ← hr, getD_right, unitR_get hk]
  rw [sm_one (i := i) hi fun k hk hne => by rw [f k hk, if_neg hne, Int.zero_mul], f i hi, if_pos rfl, Int.one_mul]
  rw [getD_left (by rw [List.length_append]; omega), getD_left (by omega)]
  rw [List.getD_eq_getElem?_getD (l := rs), e] <;> rfl
theorem wantR_told {w n : Nat} {rs : List IRow} {x : IRow} (h : x.length = w) : Told w n rs x (wantR n x) ∧ (wantR n x).getD (w + n) 0 = 1 := by
  have own : (wantR n x).getD (w + n) 0 = 1 := by
    unfold wantR
    rw [← h, getD_right]
    have := getD_right (a := List.replicate n (0 : Int)) (c := [1]) (j := 0)
    rw [List.length_replicate] at this
    exact this
  refine ⟨fun j hj => ?_, own⟩
  rw [own, Int.one_mul, sm_zero fun k hk => ?_]
  · unfold wantR
    rw [getD_left (by omega)]; omega
  · have : (wantR n x).getD (w + k) 0 = 0 := by
      unfold wantR
      rw [← h, getD_right, getD_left (by rw [List.length_replicate]; exact hk), List.getD_eq_getElem?_getD, List.getElem?_replicate, if_pos hk] <;> rfl
    rw [this, Int.zero_mul]
/-- whether the wanted row is made of the rows, as solve finds it -/
def restR (w : Nat) (rs : List IRow) (x : IRow) : IRow := clr (wantR rs.length x) (part w (lineR rs) [] []).1
theorem rest_len {w : Nat} {rs : List IRow} {x : IRow} (h : ∀ r ∈ rs, r.length = w) (hx : x.length = w) : (restR w rs x).length = w + rs.length + 1 := by
  have he := part_ech (ls := lineR rs) (bs := []) (rs := []) (w := w) (lineR_len h) .nil
  unfold restR
  rw [clr_len fun p hp => by rw [(he.facts.2 p hp).1, wantR_len hx], wantR_len hx]
theorem rest_told {w : Nat} {rs : List IRow} {x : IRow} (h : ∀ r ∈ rs, r.length = w) (hx : x.length = w) : Told w rs.length rs x (restR w rs x) ∧ (restR w rs x).getD (w + rs.length) 0 ≠ 0 := by
  have he := part_ech (ls := lineR rs) (bs := []) (rs := []) (w := w) (lineR_len h) .nil
  have k1 := part_keep (told_kept (w := w) (n := rs.length) (rs := rs) (x0 := x)) (ls := lineR rs) (bs := []) (rs := []) (w := w) (fun l hl => ⟨lineR_len h l hl, (lineR_told h l hl).1⟩) .nil (fun p hp => by cases hp)
  have k2 := part_keep (col_kept (q := w + rs.length)) (ls := lineR rs) (bs := []) (rs := []) (w := w) (fun l hl => ⟨lineR_len h l hl, (lineR_told (x := x) h l hl).2⟩) .nil (fun p hp => by cases hp)
  refine ⟨clr_keep told_kept (fun p hp => ⟨by rw [(he.facts.2 p hp).1, wantR_len hx], (he.facts.2 p hp).2.2.1, k1 p hp⟩) (wantR_told hx).1, clr_own (fun p hp => ⟨by rw [(he.facts.2 p hp).1, wantR_len hx], (he.facts.2 p hp).2.2.1, k2 p hp⟩) ?_⟩
  rw [(wantR_told (rs := rs) hx).2]
  decide
theorem rk_mark {m w : Nat} {rs ls : List IRow} (hr : ∀ r ∈ rs, r.length = w) (hl : ∀ l ∈ ls, l.length = m) (e : vws w ls = vws w rs) : rkF w ls = rkF w rs :=
  IsRk.eq (rkF_is hl) (rkF_is hr) (fun x hx => by rw [← e]; exact co_mem hx) (fun x hx => by rw [e]; exact co_mem hx)
theorem vws_line {w : Nat} {rs : List IRow} (h : ∀ r ∈ rs, r.length = w) : vws w (lineR rs) = vws w rs := by
  unfold vws lineR markR
  rw [List.map_map, List.map_map]
  have e : rs = rs.zipIdx.map (·.1) := by rw [List.zipIdx_map_fst]
  conv => rhs; rw [e, List.map_map]
  refine List.map_congr_left fun p hp => ?_
  obtain ⟨r, i⟩ := p
  rw [List.mk_mem_zipIdx_iff_getElem?] at hp
  show vw w ((r ++ unitR rs.length i) ++ [0]) = vw w r
  rw [List.append_assoc, vw_app (h r (List.mem_of_getElem? hp))]
/-- the rank grows where the rest leads -/
theorem rest_rank {w : Nat} {rs : List IRow} {x : IRow} (h : ∀ r ∈ rs, r.length = w) (hx : x.length = w) : rkF w (rs ++ [x]) = rkF w rs + (if (lead w (restR w rs x)).isSome then 1 else 0) := by
  have e1 : rkF w (lineR rs) = rkF w rs := rk_mark h (lineR_len h) (vws_line h)
  have e2 : rkF w (lineR rs ++ [wantR rs.length x]) = rkF w (rs ++ [x]) := by
    refine rk_mark (m := w + rs.length + 1) (fun r hr => ?_) (fun l hl => ?_) ?_
    · rcases List.mem_append.mp hr with hr | hr
      · exact h r hr
      · rw [List.mem_singleton.mp hr]; exact hx
    · rcases List.mem_append.mp hl with hl | hl
      · exact lineR_len h l hl
      · rw [List.mem_singleton.mp hl]; exact wantR_len hx
    · have v := vws_line h
      unfold vws at v ⊢
      rw [List.map_append, List.map_append, v]
      show _ ++ [vw w (wantR rs.length x)] = _ ++ [vw w x]
      unfold wantR
      rw [vw_app hx]
  rw [← e2, ← e1]
  unfold rkF
  rw [part_snoc]
  unfold restR
  cases e : lead w (clr (wantR rs.length x) (part w (lineR rs) [] []).1) with
  | none => rw [part_none e] <;> rfl
  | some c =>
    rw [part_some e]
    show (List.length (_ ++ [_])) = _
    rw [List.length_append] <;> rfl
theorem part_bd {m w n : Nat} : ∀ {ls : List IRow} {bs : Bas} {rs : List IRow}, Ech m w bs → (∀ l ∈ ls, l.length = m ∧ Bd n l) → (∀ (j : Nat) (p : Nat × IRow), bs[j]? = some p → Bd (gr n j) p.2) → gr n w ≤ top → ∀ (j : Nat) (p : Nat × IRow), (part w ls bs rs).1[j]? = some p → Bd (gr n j) p.2
  | [], bs, _, _, _, hb, _ => hb
  | l :: ls, bs, rs, he, hl, hb, ht => by
    obtain ⟨l1, l2⟩ := hl l List.mem_cons_self
    have g0 : gr n 0 = n := by unfold gr; simp
    have hbl := he.len
    obtain ⟨c1, c2⟩ := clr_bd (bs := bs) (i := 0) (by rw [g0]; exact l2) (fun j p hj => by rw [Nat.zero_add]; exact hb j p hj) (Nat.le_trans (gr_mono n (by omega)) ht)
    rw [Nat.zero_add] at c2
    cases e : lead w (clr l bs) with
    | none =>
      rw [part_none e]
      exact part_bd he (fun x hx => hl x (List.mem_cons_of_mem _ hx)) hb ht
    | some c =>
      rw [part_some e]
      refine part_bd (he.add l1 e) (fun x hx => hl x (List.mem_cons_of_mem _ hx)) (fun j p hj => ?_) ht
      have hj : (bs ++ [(c, clr l bs)])[j]? = some p := hj
      by_cases hj2 : j < bs.length
      · rw [List.getElem?_append_left hj2] at hj
        exact hb j p hj
      · rw [List.getElem?_append_right (by omega)] at hj
        have hj3 : j = bs.length := by
          have := (List.getElem?_eq_some_iff.mp hj).1
          simp at this
          omega
        subst hj3
        rw [Nat.sub_self] at hj
        cases hj
        exact c2
theorem Bd.app {n : Nat} {a c : IRow} (h : Bd n a) (g : Bd n c) : Bd n (a ++ c) := fun x hx => (List.mem_append.mp hx).elim (h x) (g x)
theorem bd_small {n : Nat} (h : 1 ≤ n) {a : IRow} (g : ∀ x ∈ a, x = 0 ∨ x = 1) : Bd n a := fun x hx => by
  have : (2 : Nat) ^ 1 ≤ 2 ^ n := Nat.pow_le_pow_right (by decide) h
  rcases g x hx with e | e <;> rw [e] <;> simp <;> omega
theorem lineR_bd {n : Nat} (h : 1 ≤ n) {rs : List IRow} (g : ∀ r ∈ rs, Bd n r) : ∀ l ∈ lineR rs, Bd n l := fun l hl => by
  obtain ⟨i, r, e, rfl⟩ := lineR_mem hl
  refine ((g r (List.mem_of_getElem? e)).app (bd_small h fun x hx => ?_)).app (bd_small h fun x hx => .inl (List.mem_singleton.mp hx))
  obtain ⟨k, _, rfl⟩ := List.mem_map.mp hx
  split
  · exact .inr rfl
  · exact .inl rfl
theorem wantR_bd {n k : Nat} (h : 1 ≤ n) {x : IRow} (g : Bd n x) : Bd n (wantR k x) := by
  refine g.app ((bd_small h fun y hy => .inl (List.eq_of_mem_replicate hy)).app (bd_small h fun y hy => .inr (List.mem_singleton.mp hy)))
/-- what solve's steps need of the sizes -/
theorem sol_ok {n w : Nat} {rs : List IRow} {x : IRow} (h1 : 1 ≤ n) (h : ∀ r ∈ rs, r.length = w ∧ Bd n r) (hx : x.length = w ∧ Bd n x) (ht : gr n w ≤ top) : PartOk w (lineR rs) [] ∧ ClrOk (wantR rs.length x) (part w (lineR rs) [] []).1 := by
  have hm : ∀ l ∈ lineR rs, l.length = w + rs.length + 1 ∧ Bd n l := fun l hl => ⟨lineR_len (fun r hr => (h r hr).1) l hl, lineR_bd h1 (fun r hr => (h r hr).2) l hl⟩
  have he := part_ech (ls := lineR rs) (bs := []) (rs := []) (w := w) (fun l hl => (hm l hl).1) .nil
  have g0 : gr n 0 = n := by unfold gr; simp
  refine ⟨part_ok .nil hm (fun j p hj => by cases hj) ht, ?_⟩
  refine (clr_bd (n := n) (i := 0) (by rw [g0]; exact wantR_bd h1 hx.2) (fun j p hj => ?_) ?_).1
  · rw [Nat.zero_add]
    exact part_bd .nil hm (fun j p hj => by cases hj) ht j p hj
  · have := he.len
    exact Nat.le_trans (gr_mono n (by omega)) ht
end MX

namespace MX
open RK
/-! the lines that are cleared to zero: what their factors are, that they are independent, how great they grow -/
theorem getD_zero {l : IRow} (j : Nat) : (l ++ [0]).getD j 0 = l.getD j 0 := by
  by_cases h : j < l.length
  · exact getD_left h
  · obtain ⟨k, rfl⟩ : ∃ k, j = l.length + k := ⟨j - l.length, by omega⟩
    rw [getD_right, List.getD_eq_getElem?_getD (l := l), List.getElem?_eq_none (by omega)]
    cases k <;> rfl
theorem markR_at {rs : List IRow} {i : Nat} : (markR rs)[i]? = rs[i]?.map fun r => r ++ unitR rs.length i := by
  unfold markR
  rw [List.getElem?_map, List.getElem?_zipIdx]
  cases rs[i]? <;> simp
theorem markR_len (rs : List IRow) : (markR rs).length = rs.length := by unfold markR; rw [List.length_map, List.length_zipIdx]
theorem markR_told {w i : Nat} {rs : List IRow} {r : IRow} (h : ∀ r ∈ rs, r.length = w) (e : rs[i]? = some r) : Told w rs.length rs [] (r ++ unitR rs.length i) := by
  have hm : (r ++ unitR rs.length i) ++ [0] ∈ lineR rs := List.mem_map.mpr ⟨_, List.mem_of_getElem? (i := i) (by rw [markR_at, e] <;> rfl), rfl⟩
  have h1 := (lineR_told (x := []) h _ hm).1
  intro j hj
  have h2 := h1 j hj
  rw [getD_zero, getD_zero] at h2
  rw [h2]
  refine congrArg (· + _) (sm_congr fun k _ => ?_)
  rw [getD_zero]
theorem vws_mark {w : Nat} {rs : List IRow} (h : ∀ r ∈ rs, r.length = w) : vws w (markR rs) = vws w rs := by
  unfold vws markR
  rw [List.map_map]
  have e : rs = rs.zipIdx.map (·.1) := by rw [List.zipIdx_map_fst]
  conv => rhs; rw [e, List.map_map]
  refine List.map_congr_left fun p hp => ?_
  obtain ⟨r, i⟩ := p
  rw [List.mk_mem_zipIdx_iff_getElem?] at hp
  show vw w (r ++ unitR rs.length i) = vw w r
  rw [vw_app (h r (List.mem_of_getElem? hp))]
structure KI (w N : Nat) (rs : List IRow) (i : Nat) (bs : Bas) (zs : List IRow) : Prop where
  ech : Ech (w + rs.length) w bs
  bcol : ∀ p ∈ bs, ∀ k, i ≤ k → k < rs.length → p.2.getD (w + k) 0 = 0
  btold : ∀ p ∈ bs, Told w rs.length rs [] p.2
  bb : ∀ (j : Nat) (p : Nat × IRow), bs[j]? = some p → Bd (gr N j) p.2
  zl : ∀ z ∈ zs, z.length = w + rs.length ∧ (∀ j, j < w → z.getD j 0 = 0) ∧ Told w rs.length rs [] z ∧ Bd (gr N bs.length) z
  own : ∃ qs : List Nat, qs.length = zs.length ∧ qs.Nodup ∧ (∀ q ∈ qs, q < i) ∧ ∀ (t q : Nat) (z : IRow), qs[t]? = some q → zs[t]? = some z → z.getD (w + q) 0 ≠ 0 ∧ ∀ k, q < k → k < rs.length → z.getD (w + k) 0 = 0
theorem KI.nil {w N : Nat} {rs : List IRow} : KI w N rs 0 [] [] :=
  ⟨.nil, fun p hp => (by cases hp), fun p hp => (by cases hp), fun j p hp => (by cases hp), fun z hz => (by cases hz), [], rfl, List.nodup_nil, fun q hq => (by cases hq), fun t q z h => (by cases h)⟩
theorem KI.step {w N i : Nat} {rs : List IRow} {bs : Bas} {zs : List IRow} (h : KI w N rs i bs zs) (hN : 1 ≤ N) (hw : ∀ r ∈ rs, r.length = w ∧ Bd N r) {r : IRow} (hr : rs[i]? = some r) (ht : gr N w ≤ top) :
    KI w N rs (i + 1) (part w [r ++ unitR rs.length i] bs zs).1 (part w [r ++ unitR rs.length i] bs zs).2 := by
  have hi : i < rs.length := (List.getElem?_eq_some_iff.mp hr).1
  obtain ⟨rl, rb⟩ := hw r (List.mem_of_getElem? hr)
  have hL : (r ++ unitR rs.length i).length = w + rs.length := by rw [List.length_append, rl, unitR_len]
  have hT := markR_told (fun r hr => (hw r hr).1) hr
  have hC : ∀ k, k < rs.length → (r ++ unitR rs.length i).getD (w + k) 0 = if k = i then 1 else 0 := fun k hk => by
    rw [← rl, getD_right, unitR_get hk]
  have hB : Bd N (r ++ unitR rs.length i) := rb.app (bd_small hN fun x hx => by
    obtain ⟨k, _, rfl⟩ := List.mem_map.mp hx
    split
    · exact .inr rfl
    · exact .inl rfl)
  generalize r ++ unitR rs.length i = l at *
  have fc := h.ech.facts.2
  have cl : (clr l bs).length = w + rs.length := by rw [clr_len fun p hp => by rw [(fc p hp).1, hL]]; exact hL
  have ct : Told w rs.length rs [] (clr l bs) := clr_keep told_kept (fun p hp => ⟨by rw [(fc p hp).1, hL], (fc p hp).2.2.1, h.btold p hp⟩) hT
  have co : (clr l bs).getD (w + i) 0 ≠ 0 := clr_own (fun p hp => ⟨by rw [(fc p hp).1, hL], (fc p hp).2.2.1, h.bcol p hp i (Nat.le_refl _) hi⟩) (by rw [hC i hi, if_pos rfl]; decide)
  have cz : ∀ k, i < k → k < rs.length → (clr l bs).getD (w + k) 0 = 0 := fun k h1 h2 =>
    clr_keep col_kept (fun p hp => ⟨by rw [(fc p hp).1, hL], (fc p hp).2.2.1, h.bcol p hp k (Nat.le_of_lt h1) h2⟩) (by rw [hC k h2, if_neg (by omega)])
  have g0 : gr N 0 = N := by unfold gr; simp
  have hbl := h.ech.len
  have cb : Bd (gr N bs.length) (clr l bs) := by
    have := (clr_bd (bs := bs) (i := 0) (l := l) (by rw [g0]; exact hB) (fun j p hj => by rw [Nat.zero_add]; exact h.bb j p hj) (Nat.le_trans (gr_mono N (by omega)) ht)).2
    rwa [Nat.zero_add] at this
  obtain ⟨qs, q1, q2, q3, q4⟩ := h.own
  cases e : lead w (clr l bs) with
  | none =>
    rw [part_none e]
    show KI w N rs (i + 1) bs (zs ++ [clr l bs])
    refine ⟨h.ech, fun p hp k h1 h2 => h.bcol p hp k (by omega) h2, h.btold, h.bb, fun z hz => ?_, qs ++ [i], by rw [List.length_append, List.length_append, q1] <;> rfl, ?_, fun q hq => ?_, fun t q z e1 e2 => ?_⟩
    · rcases List.mem_append.mp hz with hz | hz
      · exact h.zl z hz
      · rw [List.mem_singleton.mp hz]
        exact ⟨cl, lead_none e, ct, cb⟩
    · refine List.nodup_append.mpr ⟨q2, List.nodup_cons.mpr ⟨List.not_mem_nil, List.nodup_nil⟩, fun a ha c hc e => ?_⟩
      rw [List.mem_singleton.mp hc] at e
      have := q3 a ha
      omega
    · rcases List.mem_append.mp hq with hq | hq
      · have := q3 q hq; omega
      · rw [List.mem_singleton.mp hq]; omega
    · by_cases ht : t < zs.length
      · rw [List.getElem?_append_left (by omega)] at e1
        rw [List.getElem?_append_left ht] at e2
        exact q4 t q z e1 e2
      · rw [List.getElem?_append_right (by omega)] at e1 e2
        have h0 : t - zs.length = 0 := by
          have := (List.getElem?_eq_some_iff.mp e2).1
          simp at this
          omega
        rw [h0] at e2
        rw [q1, h0] at e1
        cases e1
        cases e2
        exact ⟨co, cz⟩
  | some c =>
    rw [part_some e]
    show KI w N rs (i + 1) (bs ++ [(c, clr l bs)]) zs
    have gm : gr N bs.length ≤ gr N (bs ++ [(c, clr l bs)]).length := gr_mono N (by rw [List.length_append]; omega)
    refine ⟨h.ech.add hL e, fun p hp k h1 h2 => ?_, fun p hp => ?_, fun j p hj => ?_, fun z hz => ⟨(h.zl z hz).1, (h.zl z hz).2.1, (h.zl z hz).2.2.1, (h.zl z hz).2.2.2.mono gm⟩, qs, q1, q2, fun q hq => Nat.lt_succ_of_lt (q3 q hq), q4⟩
    · rcases List.mem_append.mp hp with hp | hp
      · exact h.bcol p hp k (by omega) h2
      · rw [List.mem_singleton.mp hp]
        exact cz k (by omega) h2
    · rcases List.mem_append.mp hp with hp | hp
      · exact h.btold p hp
      · rw [List.mem_singleton.mp hp]
        exact ct
    · by_cases hj2 : j < bs.length
      · rw [List.getElem?_append_left hj2] at hj
        exact h.bb j p hj
      · rw [List.getElem?_append_right (by omega)] at hj
        have hj3 : j = bs.length := by
          have := (List.getElem?_eq_some_iff.mp hj).1
          simp at this
          omega
        subst hj3
        rw [Nat.sub_self] at hj
        cases hj
        exact cb
theorem ker_I {w N : Nat} {rs : List IRow} (hN : 1 ≤ N) (hw : ∀ r ∈ rs, r.length = w ∧ Bd N r) (ht : gr N w ≤ top) : KI w N rs rs.length (part w (markR rs) [] []).1 (part w (markR rs) [] []).2 := by
  have key : ∀ i, i ≤ rs.length → KI w N rs i (part w ((markR rs).take i) [] []).1 (part w ((markR rs).take i) [] []).2 := fun i => by
    induction i with
    | zero => intro _; exact KI.nil
    | succ i ih =>
      intro hi
      have hr : rs[i]? = some rs[i] := List.getElem?_eq_getElem (by omega)
      have := (ih (by omega)).step hN hw hr ht
      rw [List.take_add_one, markR_at, hr]
      show KI w N rs (i + 1) (part w ((markR rs).take i ++ [rs[i] ++ unitR rs.length i]) [] []).1 (part w ((markR rs).take i ++ [rs[i] ++ unitR rs.length i]) [] []).2
      rw [part_snoc]
      exact this
  have := key rs.length (Nat.le_refl _)
  rwa [List.take_of_length_le (by rw [markR_len]; exact Nat.le_refl _)] at this
/-- the combinations that are zero, as kernel finds them -/
def kerR (w : Nat) (rs : List IRow) : List IRow := (part w (markR rs) [] []).2.map (List.drop w)
theorem drop_getD {w k : Nat} {z : IRow} : (z.drop w).getD k 0 = z.getD (w + k) 0 := by
  rw [List.getD_eq_getElem?_getD, List.getElem?_drop, ← List.getD_eq_getElem?_getD]
theorem ker_len {w N : Nat} {rs : List IRow} (hN : 1 ≤ N) (hw : ∀ r ∈ rs, r.length = w ∧ Bd N r) (ht : gr N w ≤ top) : rkF w rs + (kerR w rs).length = rs.length := by
  have hm : ∀ l ∈ markR rs, l.length = w + rs.length := fun l hl => by
    obtain ⟨i, hi⟩ := List.getElem?_of_mem hl
    rw [markR_at] at hi
    cases e : rs[i]? with
    | none => rw [e] at hi; cases hi
    | some r =>
      rw [e] at hi
      cases hi
      show (r ++ unitR rs.length i).length = _
      rw [List.length_append, unitR_len, (hw r (List.mem_of_getElem? e)).1]
  have h1 := (part_I (w := w) (markR rs) hm).many
  have h2 : rkF w (markR rs) = rkF w rs := rk_mark (fun r hr => (hw r hr).1) hm (vws_mark fun r hr => (hw r hr).1)
  have h3 : rkF w (markR rs) = (part w (markR rs) [] []).1.length := rfl
  unfold kerR
  rw [List.length_map]
  rw [markR_len] at h1
  omega
theorem ker_all {w N : Nat} {rs : List IRow} (hN : 1 ≤ N) (hw : ∀ r ∈ rs, r.length = w ∧ Bd N r) (ht : gr N w ≤ top) : ∀ z ∈ kerR w rs, z.length = rs.length ∧ Bd (gr N (rkF w rs)) z ∧ ∀ j, j < w → sm rs.length (fun k => z.getD k 0 * (rs.getD k []).getD j 0) = 0 := fun z hz => by
  have hI := ker_I hN hw ht
  have hm : ∀ l ∈ markR rs, l.length = w + rs.length := fun l hl => by
    obtain ⟨i, hi⟩ := List.getElem?_of_mem hl
    rw [markR_at] at hi
    cases e : rs[i]? with
    | none => rw [e] at hi; cases hi
    | some r =>
      rw [e] at hi
      cases hi
      show (r ++ unitR rs.length i).length = _
      rw [List.length_append, unitR_len, (hw r (List.mem_of_getElem? e)).1]
  have h2 : rkF w (markR rs) = rkF w rs := rk_mark (fun r hr => (hw r hr).1) hm (vws_mark fun r hr => (hw r hr).1)
  have h3 : rkF w (markR rs) = (part w (markR rs) [] []).1.length := rfl
  obtain ⟨y, hy, rfl⟩ := List.mem_map.mp hz
  obtain ⟨y1, y2, y3, y4⟩ := hI.zl y hy
  refine ⟨by rw [List.length_drop]; omega, fun x hx => ?_, fun j hj => ?_⟩
  · rw [← h2, h3]
    exact y4 x (List.mem_of_mem_drop hx)
  · have := y3 j hj
    rw [y2 j hj] at this
    have e0 : y.getD (w + rs.length) 0 * ([] : IRow).getD j 0 = 0 := by
      show _ * 0 = 0
      rw [Int.mul_zero]
    rw [e0, Int.add_zero] at this
    rw [sm_congr (y := fun k => y.getD (w + k) 0 * (rs.getD k []).getD j 0) fun k _ => by rw [drop_getD]]
    exact this.symm
theorem ker_rk {w N : Nat} {rs : List IRow} (hN : 1 ≤ N) (hw : ∀ r ∈ rs, r.length = w ∧ Bd N r) (ht : gr N w ≤ top) : rkF rs.length (kerR w rs) = (kerR w rs).length := by
  refine rk_of (fun x hx => (ker_all hN hw ht x hx).1) ?_
  have hI := ker_I hN hw ht
  obtain ⟨qs, q1, q2, q3, q4⟩ := hI.own
  unfold kerR
  generalize (part w (markR rs) [] []).2 = zs at *
  have zl : (qs.zip zs).length = zs.length := by rw [List.length_zip]; omega
  have inz : ∀ p ∈ qs.zip zs, ∃ i : Nat, qs[i]? = some p.1 ∧ zs[i]? = some p.2 := fun p hp => by
    obtain ⟨i, hi⟩ := List.getElem?_of_mem hp
    rw [List.getElem?_zip_eq_some] at hi
    exact ⟨i, hi⟩
  have fst : (qs.zip zs).map (·.1) = qs := by rw [List.map_fst_zip (by omega)]
  refine ⟨fun i j => j < i, fun i j q => by omega, fun i j k q1 q2 => by omega, (qs.zip zs).map fun p => (p.1, vw rs.length (p.2.drop w)), ⟨?_, ?_, ?_, ?_⟩, by rw [List.length_map, List.length_map, zl]⟩
  · rw [List.map_map]
    show ((qs.zip zs).map (·.1)).Nodup
    rw [fst]; exact q2
  · intro p hp
    obtain ⟨q, hq, rfl⟩ := List.mem_map.mp hp
    obtain ⟨i, e1, e2⟩ := inz q hq
    obtain ⟨h1, h2⟩ := q4 i _ _ e1 e2
    have hlt := q3 _ (List.mem_of_getElem? e1)
    refine ⟨by show vw rs.length (q.2.drop w) q.1 ≠ 0; unfold vw; rw [if_pos hlt, drop_getD]; exact h1, fun j hj => ?_⟩
    show vw rs.length (q.2.drop w) j = 0
    unfold vw
    by_cases hj2 : j < rs.length
    · rw [if_pos hj2, drop_getD]
      exact h2 j hj hj2
    · rw [if_neg hj2]
  · intro p hp
    obtain ⟨q, hq, rfl⟩ := List.mem_map.mp hp
    obtain ⟨i, _, e2⟩ := inz q hq
    exact co_mem (List.mem_map.mpr ⟨q.2, List.mem_of_getElem? e2, rfl⟩)
  · intro v hv
    obtain ⟨x, hx, rfl⟩ := List.mem_map.mp hv
    obtain ⟨z, hz, rfl⟩ := List.mem_map.mp hx
    obtain ⟨i, hi⟩ := List.getElem?_of_mem hz
    have hfp : i < qs.length := by rw [q1]; exact (List.getElem?_eq_some_iff.mp hi).1
    have e1 : qs[i]? = some qs[i] := List.getElem?_eq_getElem hfp
    refine Co.mem ?_
    rw [List.map_map]
    refine List.mem_map.mpr ⟨(qs[i], z), ?_, rfl⟩
    refine List.mem_of_getElem? (i := i) ?_
    rw [List.getElem?_zip_eq_some]
    exact ⟨e1, hi⟩
end MX

local macro_rules | `(tactic| walk_at "side") => `(tactic| first | exact Nat.le_of_ble_eq_true rfl | exact Or.inl rfl | omega | decide | decide +kernel | exact Or.inr (by decide) | exact Or.inl (by decide) | (dsimp only; exact Or.inl (by omega)) | (dsimp only; exact Or.inr (by omega)) | (dsimp only; omega) | exact ⟨by omega, by omega⟩ | assumption | trivial | rfl | (intro z hz; cases hz <;> omega))
local macro_rules | `(tactic| walk_at "go1") => `(tactic| with_reducible conv => whnf)
local macro_rules | `(tactic| walk_at "go2") => `(tactic| first | ((with_reducible refine Exists.intro ?ww (And.intro ?hh ?_)); (case hh => rfl)) | ((with_reducible refine And.intro ?hs ?_); (case hs => walk_at "side")) | ((with_reducible refine And.intro ?hs (Exists.intro ?ww (And.intro ?hh ?_))); (case hh => rfl); (case hs => walk_at "side")) | fail "no more")
local macro_rules | `(tactic| walk_at "go3") => `(tactic| first | walk_at "go2" | with_reducible refine DL.dAnd_go ?_ | with_reducible refine DL.dOr_go ?_ | with_reducible refine DL.dChI_go ?_)
local macro_rules | `(tactic| walk_at "go") => `(tactic| (walk_at "go1"; repeat' (walk_at "go3"; walk_at "go1")); try dsimp only)
local macro_rules | `(tactic| walk_at "gs") => `(tactic| (walk_at "go1"; repeat' (walk_at "go2"; walk_at "go1")); try dsimp only)
local macro_rules | `(tactic| walk_at "om") => `(tactic| repeat (with_reducible refine And.intro (by omega) ?_))
namespace Pf
open PySem PySem.Spec PyProof.Rows L2 DL
def mthS (i j : Nat) : Stmt := match PySem.Challenge.pw_twinbegun_k15_combinations_that_are_zero.main.body.getD i (.Pass ⟨0, 0, 0, 0⟩) with | .ClassDef (body := bd) .. => bd.getD j (.Pass ⟨0, 0, 0, 0⟩) | _ => .Pass ⟨0, 0, 0, 0⟩
def topS (i : Nat) : Stmt := PySem.Challenge.pw_twinbegun_k15_combinations_that_are_zero.main.body.getD i (.Pass ⟨0, 0, 0, 0⟩)
abbrev s_bag : Stmt := topS 11
abbrev N_bag : List Str := ["_law_script", "_law_cells", "_law_mixed", "_law_cell"]
abbrev P_bag : List Str := ["_law_script"]
theorem sc_bag : FnScope N_bag P_bag (defScope s_bag) := ⟨rfl, rfl, rfl, by decide +kernel, rfl, by decide +kernel, by decide +kernel⟩
abbrev s_take : Stmt := topS 12
abbrev N_take : List Str := ["_law_bag_here", "_law_many", "_law_cell", "_law_digit", "_law_old"]
abbrev P_take : List Str := ["_law_bag_here", "_law_many"]
theorem sc_take : FnScope N_take P_take (defScope s_take) := ⟨rfl, rfl, rfl, by decide +kernel, rfl, by decide +kernel, by decide +kernel⟩
abbrev s_of : Stmt := topS 13
abbrev N_of : List Str := ["_law_bag_here", "_law_things"]
abbrev P_of : List Str := ["_law_bag_here", "_law_things"]
theorem sc_of : FnScope N_of P_of (defScope s_of) := ⟨rfl, rfl, rfl, by decide +kernel, rfl, by decide +kernel, by decide +kernel⟩
abbrev s_numbers : Stmt := topS 17
abbrev N_numbers : List Str := ["_law_bag_here", "_law_many", "_law_k"]
abbrev P_numbers : List Str := ["_law_bag_here", "_law_many"]
theorem sc_numbers : FnScope N_numbers P_numbers (defScope s_numbers) := ⟨rfl, rfl, rfl, by decide +kernel, rfl, by decide +kernel, by decide +kernel⟩
abbrev s_lines : Stmt := topS 18
abbrev N_lines : List Str := ["_law_bag_here", "_law_many", "_law_width", "_law_found", "_law_k", "_law_row", "_law_one", "_law_two", "_law_c", "_law_a", "_law_b"]
abbrev P_lines : List Str := ["_law_bag_here", "_law_many", "_law_width"]
theorem sc_lines : FnScope N_lines P_lines (defScope s_lines) := ⟨rfl, rfl, rfl, by decide +kernel, rfl, by decide +kernel, by decide +kernel⟩
abbrev s__width_of : Stmt := topS 4
abbrev N__width_of : List Str := ["rows"]
abbrev P__width_of : List Str := ["rows"]
theorem sc__width_of : FnScope N__width_of P__width_of (defScope s__width_of) := ⟨rfl, rfl, rfl, by decide +kernel, rfl, by decide +kernel, by decide +kernel⟩
abbrev s__shortened : Stmt := topS 8
abbrev N__shortened : List Str := ["line", "common", "number"]
abbrev P__shortened : List Str := ["line"]
theorem sc__shortened : FnScope N__shortened P__shortened (defScope s__shortened) := ⟨rfl, rfl, rfl, by decide +kernel, rfl, by decide +kernel, by decide +kernel⟩
abbrev s__cleared : Stmt := topS 7
abbrev N__cleared : List Str := ["line", "basis", "column", "other", "factor", "lead", "mine", "theirs"]
abbrev P__cleared : List Str := ["line", "basis"]
theorem sc__cleared : FnScope N__cleared P__cleared (defScope s__cleared) := ⟨rfl, rfl, rfl, by decide +kernel, rfl, by decide +kernel, by decide +kernel⟩
abbrev s__leading : Stmt := topS 9
abbrev N__leading : List Str := ["line", "width", "column"]
abbrev P__leading : List Str := ["line", "width"]
theorem sc__leading : FnScope N__leading P__leading (defScope s__leading) := ⟨rfl, rfl, rfl, by decide +kernel, rfl, by decide +kernel, by decide +kernel⟩
abbrev s__parted : Stmt := topS 6
abbrev N__parted : List Str := ["lines", "width", "basis", "rests", "line", "rest", "column"]
abbrev P__parted : List Str := ["lines", "width"]
theorem sc__parted : FnScope N__parted P__parted (defScope s__parted) := ⟨rfl, rfl, rfl, by decide +kernel, rfl, by decide +kernel, by decide +kernel⟩
abbrev s_identity : Stmt := topS 2
abbrev N_identity : List Str := ["width", "index", "at"]
abbrev P_identity : List Str := ["width"]
theorem sc_identity : FnScope N_identity P_identity (defScope s_identity) := ⟨rfl, rfl, rfl, by decide +kernel, rfl, by decide +kernel, by decide +kernel⟩
abbrev s__marked : Stmt := topS 5
abbrev N__marked : List Str := ["rows", "row", "factors"]
abbrev P__marked : List Str := ["rows"]
theorem sc__marked : FnScope N__marked P__marked (defScope s__marked) := ⟨rfl, rfl, rfl, by decide +kernel, rfl, by decide +kernel, by decide +kernel⟩
abbrev s_kernel : Stmt := topS 3
abbrev N_kernel : List Str := ["rows", "width", "_", "rests", "rest"]
abbrev P_kernel : List Str := ["rows"]
theorem sc_kernel : FnScope N_kernel P_kernel (defScope s_kernel) := ⟨rfl, rfl, rfl, by decide +kernel, rfl, by decide +kernel, by decide +kernel⟩
abbrev s_divisor : Stmt := topS 15
abbrev N_divisor : List Str := ["_law_numbers_here", "_law_found", "_law_number", "_law_other"]
abbrev P_divisor : List Str := ["_law_numbers_here"]
theorem sc_divisor : FnScope N_divisor P_divisor (defScope s_divisor) := ⟨rfl, rfl, rfl, by decide +kernel, rfl, by decide +kernel, by decide +kernel⟩
abbrev s_lrank : Stmt := topS 16
abbrev N_lrank : List Str := ["_law_rows_z", "_law_left", "_law_found", "_law_column", "_law_at", "_law_head", "_law_k", "_law_late", "_law_common", "_law_row", "_law_one", "_law_two", "_law_number"]
abbrev P_lrank : List Str := ["_law_rows_z"]
theorem sc_lrank : FnScope N_lrank P_lrank (defScope s_lrank) := ⟨rfl, rfl, rfl, by decide +kernel, rfl, by decide +kernel, by decide +kernel⟩
abbrev s_same : Stmt := topS 14
abbrev N_same : List Str := ["_law_found", "_law_due", "_law_one", "_law_two"]
abbrev P_same : List Str := ["_law_found", "_law_due"]
theorem sc_same : FnScope N_same P_same (defScope s_same) := ⟨rfl, rfl, rfl, by decide +kernel, rfl, by decide +kernel, by decide +kernel⟩
abbrev s_law : Stmt := topS 19
abbrev N_law : List Str := ["_law_script", "_law_bag_here", "_law_turn", "_law_many", "_law_width", "_law_rows_z", "_law_found", "_law_most", "_law_numbers_here", "_law_kept", "_law_one", "_law_j", "_law_c", "_law_line"]
abbrev P_law : List Str := ["_law_script"]
theorem sc_law : FnScope N_law P_law (defScope s_law) := ⟨rfl, rfl, rfl, by decide +kernel, rfl, by decide +kernel, by decide +kernel⟩
structure Fc (K : PySem.W.Frag) (mg : Str → Option Value) where
  z_abs : mg "abs" = none
  z_all : mg "all" = none
  z_bool : mg "bool" = none
  z_int : mg "int" = none
  z_isinstance : mg "isinstance" = none
  z_len : mg "len" = none
  z_list : mg "list" = none
  z_max : mg "max" = none
  z_range : mg "range" = none
  z_reversed : mg "reversed" = none
  z_str : mg "str" = none
  z_sum : mg "sum" = none
  z_tuple : mg "tuple" = none
  z_zip : mg "zip" = none
  m_gcd : mg "gcd" = some (.builtin "math.gcd")
  a_bag : Addr
  fd_bag : FuncData
  F_bag : Fun K "_law_bag" "_law_bag" s_bag a_bag fd_bag
  g_bag : mg "_law_bag" = some (.ref a_bag)
  b_bag : Binds K fd_bag P_bag []
  a_take : Addr
  fd_take : FuncData
  F_take : Fun K "_law_take" "_law_take" s_take a_take fd_take
  g_take : mg "_law_take" = some (.ref a_take)
  b_take : Binds K fd_take P_take []
  a_of : Addr
  fd_of : FuncData
  F_of : Fun K "_law_of" "_law_of" s_of a_of fd_of
  g_of : mg "_law_of" = some (.ref a_of)
  b_of : Binds K fd_of P_of []
  a_numbers : Addr
  fd_numbers : FuncData
  F_numbers : Fun K "_law_numbers" "_law_numbers" s_numbers a_numbers fd_numbers
  g_numbers : mg "_law_numbers" = some (.ref a_numbers)
  b_numbers : Binds K fd_numbers P_numbers []
  a_lines : Addr
  fd_lines : FuncData
  F_lines : Fun K "_law_lines" "_law_lines" s_lines a_lines fd_lines
  g_lines : mg "_law_lines" = some (.ref a_lines)
  b_lines : Binds K fd_lines P_lines []
  a__width_of : Addr
  fd__width_of : FuncData
  F__width_of : Fun K "_width_of" "_width_of" s__width_of a__width_of fd__width_of
  g__width_of : mg "_width_of" = some (.ref a__width_of)
  b__width_of : Binds K fd__width_of P__width_of []
  a__shortened : Addr
  fd__shortened : FuncData
  F__shortened : Fun K "_shortened" "_shortened" s__shortened a__shortened fd__shortened
  g__shortened : mg "_shortened" = some (.ref a__shortened)
  b__shortened : Binds K fd__shortened P__shortened []
  a__cleared : Addr
  fd__cleared : FuncData
  F__cleared : Fun K "_cleared" "_cleared" s__cleared a__cleared fd__cleared
  g__cleared : mg "_cleared" = some (.ref a__cleared)
  b__cleared : Binds K fd__cleared P__cleared []
  a__leading : Addr
  fd__leading : FuncData
  F__leading : Fun K "_leading" "_leading" s__leading a__leading fd__leading
  g__leading : mg "_leading" = some (.ref a__leading)
  b__leading : Binds K fd__leading P__leading []
  a__parted : Addr
  fd__parted : FuncData
  F__parted : Fun K "_parted" "_parted" s__parted a__parted fd__parted
  g__parted : mg "_parted" = some (.ref a__parted)
  b__parted : Binds K fd__parted P__parted []
  a_identity : Addr
  fd_identity : FuncData
  F_identity : Fun K "identity" "identity" s_identity a_identity fd_identity
  g_identity : mg "identity" = some (.ref a_identity)
  b_identity : Binds K fd_identity P_identity []
  a__marked : Addr
  fd__marked : FuncData
  F__marked : Fun K "_marked" "_marked" s__marked a__marked fd__marked
  g__marked : mg "_marked" = some (.ref a__marked)
  b__marked : Binds K fd__marked P__marked []
  a_kernel : Addr
  fd_kernel : FuncData
  F_kernel : Fun K "kernel" "kernel" s_kernel a_kernel fd_kernel
  g_kernel : mg "kernel" = some (.ref a_kernel)
  b_kernel : Binds K fd_kernel P_kernel []
  a_divisor : Addr
  fd_divisor : FuncData
  F_divisor : Fun K "_law_divisor" "_law_divisor" s_divisor a_divisor fd_divisor
  g_divisor : mg "_law_divisor" = some (.ref a_divisor)
  b_divisor : Binds K fd_divisor P_divisor []
  a_lrank : Addr
  fd_lrank : FuncData
  F_lrank : Fun K "_law_rank" "_law_rank" s_lrank a_lrank fd_lrank
  g_lrank : mg "_law_rank" = some (.ref a_lrank)
  b_lrank : Binds K fd_lrank P_lrank []
  a_same : Addr
  fd_same : FuncData
  F_same : Fun K "_law_same" "_law_same" s_same a_same fd_same
  g_same : mg "_law_same" = some (.ref a_same)
  b_same : Binds K fd_same P_same []
  k_kernel_rows : KBinds K fd_kernel P_kernel ["rows"] (sel 0 1 [0]) (sel 0 1 [0])
section
variable {P : Program} {w : World} {K : PySem.W.Frag} {mg : Str → Option Value} {base : Heap} {b : Bg}
def cSc (ns : List (Str × NameKind)) : Scope := { kind := .function, names := ns, isGenerator := false, isCoroutine := false, more := [] }
open MX
@[reducible] def rowD (xs : IRow) : Dt := .tup (xs.map Dt.int)
@[reducible] def lisD (xs : IRow) : Dt := .lst (xs.map Dt.int)
abbrev Ln := Bool × IRow
@[reducible] def lnD : Ln → Dt
  | (true, xs) => rowD xs
  | (false, xs) => lisD xs
@[reducible] def rowsD (rs : List IRow) : Dt := .lst (rs.map rowD)
abbrev BasL := List (Nat × Ln)
@[reducible] def bsD (p : Nat × Ln) : Dt := .tup [.int (p.1 : Nat), lnD p.2]
def bsR (bs : BasL) : Bas := bs.map fun p => (p.1, p.2.2)
theorem getD_at {xs : IRow} {j : Nat} (h : j < xs.length) : atI (xs.map Dt.int) ((j : Nat) : Int) = some (.int (xs.getD j 0)) := by
  rw [List.getD_eq_getElem?_getD, List.getElem?_eq_getElem h]
  exact atI_nat (by rw [List.getElem?_map, List.getElem?_eq_getElem h] <;> rfl)
theorem decB {p : Prop} [Decidable p] (h : p) : decide p = true := decide_eq_true h
theorem decN {p : Prop} [Decidable p] (h : ¬ p) : decide p = false := decide_eq_false h
theorem mulW {a c : Int} (ha : a.natAbs < 2 ^ top) (hc : c.natAbs < 2 ^ top) : CMulW a c := wide_mul (a := top) (b := top) ha hc (by decide) (by decide) (by decide)

theorem zip_int {h : Int → Int → Int} {xs ys : IRow} : ((xs.zip ys).map fun p => Dt.int (h p.1 p.2)) = (List.zipWith h xs ys).map Dt.int := by
  rw [List.zip, List.map_zipWith, List.map_zipWith]
@[reducible] def optD : Option Nat → Dt
  | none => .non
  | some c => .int (c : Nat)
theorem lead_eq {w j : Nat} {xs : IRow} (h1 : j < w) (h2 : xs.getD j 0 ≠ 0) (h3 : ∀ k, j < k → k < w → xs.getD k 0 = 0) : lead w xs = some j := by
  cases e : lead w xs with
  | none => exact absurd (lead_none e j h1) h2
  | some c =>
    obtain ⟨a1, a2, a3⟩ := lead_some e
    by_cases q : c = j
    · rw [q]
    · by_cases q2 : c < j
      · exact absurd (a3 j q2 h1) h2
      · exact absurd (h3 c (by omega) a1) a2
theorem lead_no {w : Nat} {xs : IRow} (h : ∀ k, k < w → xs.getD k 0 = 0) : lead w xs = none := by
  cases e : lead w xs with
  | none => rfl
  | some c => exact absurd (h c (lead_some e).1) (lead_some e).2.1
def nextL (l : Ln) (c : Nat) (o : Ln) : Ln := if l.2.getD c 0 = 0 then l else (false, shortF (comb (o.2.getD c 0) (l.2.getD c 0) l.2 o.2))
def clrL (l : Ln) (bs : BasL) : Ln := bs.foldl (fun l p => nextL l p.1 p.2) l
theorem nextL_snd (l : Ln) (c : Nat) (o : Ln) : (nextL l c o).2 = next l.2 c o.2 := by unfold nextL next; split <;> rfl
theorem clrL_snd : ∀ (bs : BasL) (l : Ln), (clrL l bs).2 = clr l.2 (bsR bs)
  | [], l => rfl
  | (c, o) :: bs, l => by
    show (clrL (nextL l c o) bs).2 = clr (next l.2 c o.2) (bsR bs)
    rw [clrL_snd bs, nextL_snd]
theorem clrL_step {bs : BasL} {i : Nat} {p : Nat × Ln} (l : Ln) (h : bs[i]? = some p) : clrL l (bs.take (i + 1)) = nextL (clrL l (bs.take i)) p.1 p.2 := by
  unfold clrL
  rw [List.take_add_one, h, List.foldl_append] <;> rfl
theorem ClrOk_at : ∀ {bs : BasL} {l : Ln} {i : Nat} {c : Nat} {o : Ln}, ClrOk l.2 (bsR bs) → bs[i]? = some (c, o) → Bd top (clrL l (bs.take i)).2 ∧ Bd top o.2 ∧ ((clrL l (bs.take i)).2.getD c 0 ≠ 0 → Bd top (comb (o.2.getD c 0) ((clrL l (bs.take i)).2.getD c 0) (clrL l (bs.take i)).2 o.2))
  | [], _, _, _, _, _, e => by simp at e
  | (d, p) :: bs, l, 0, c, o, h, e => by
    obtain ⟨rfl, rfl⟩ : d = c ∧ p = o := by simpa using e
    exact ⟨h.1, h.2.1, h.2.2.1⟩
  | (d, p) :: bs, l, i + 1, c, o, h, e => by
    have h2 : ClrOk (nextL l d p).2 (bsR bs) := by rw [nextL_snd]; exact h.2.2.2
    exact ClrOk_at (l := nextL l d p) h2 (by simpa using e)
theorem clrL_len {bs : BasL} {l : Ln} {m : Nat} (hl : l.2.length = m) (hb : ∀ p ∈ bs, p.2.2.length = m) : (clrL l bs).2.length = m := by
  rw [clrL_snd, clr_len fun p hp => by
    obtain ⟨q, hq, rfl⟩ := List.mem_map.mp hp
    rw [hl]; exact hb q hq]
  exact hl
def stepL (w : Nat) (st : BasL × List Ln) (l : Ln) : BasL × List Ln := match lead w (clrL l st.1).2 with
  | none => (st.1, st.2 ++ [clrL l st.1])
  | some c => (st.1 ++ [(c, clrL l st.1)], st.2)
def partL (w : Nat) (ls : List Ln) : BasL × List Ln := ls.foldl (stepL w) ([], [])
theorem stepL_none {w : Nat} {st : BasL × List Ln} {l : Ln} (e : lead w (clrL l st.1).2 = none) : stepL w st l = (st.1, st.2 ++ [clrL l st.1]) := by unfold stepL; rw [e]
theorem stepL_some {w c : Nat} {st : BasL × List Ln} {l : Ln} (e : lead w (clrL l st.1).2 = some c) : stepL w st l = (st.1 ++ [(c, clrL l st.1)], st.2) := by unfold stepL; rw [e]
theorem partL_go (w : Nat) : ∀ (ls : List Ln) (st : BasL × List Ln), (bsR (ls.foldl (stepL w) st).1, (ls.foldl (stepL w) st).2.map (·.2)) = part w (ls.map (·.2)) (bsR st.1) (st.2.map (·.2))
  | [], st => rfl
  | l :: ls, st => by
    have e := clrL_snd st.1 l
    show (bsR (ls.foldl (stepL w) (stepL w st l)).1, (ls.foldl (stepL w) (stepL w st l)).2.map (·.2)) = part w (l.2 :: ls.map (·.2)) (bsR st.1) (st.2.map (·.2))
    rw [partL_go w ls]
    cases q : lead w (clrL l st.1).2 with
    | none =>
      rw [stepL_none q, part_none (by rw [← e]; exact q), ← e, List.map_append] <;> rfl
    | some c =>
      rw [stepL_some q, part_some (c := c) (by rw [← e]; exact q), ← e]
      show part w _ (bsR (st.1 ++ [(c, clrL l st.1)])) _ = _
      unfold bsR
      rw [List.map_append] <;> rfl
theorem partL_eq (w : Nat) (ls : List Ln) : bsR (partL w ls).1 = (part w (ls.map (·.2)) [] []).1 := congrArg Prod.fst (partL_go w ls ([], []))
theorem partL_eq2 (w : Nat) (ls : List Ln) : (partL w ls).2.map (·.2) = (part w (ls.map (·.2)) [] []).2 := congrArg Prod.snd (partL_go w ls ([], []))
theorem partL_step {w i : Nat} {ls : List Ln} {l : Ln} (h : ls[i]? = some l) : partL w (ls.take (i + 1)) = stepL w (partL w (ls.take i)) l := by
  unfold partL
  rw [List.take_add_one, h, List.foldl_append] <;> rfl
theorem PartOk_at {w : Nat} : ∀ {ls : List Ln} {bs : Bas} {rs : List IRow} {i : Nat} {l : Ln}, PartOk w (ls.map (·.2)) bs → ls[i]? = some l → ClrOk l.2 (part w ((ls.take i).map (·.2)) bs rs).1
  | [], _, _, _, _, _, e => by simp at e
  | k :: ls, bs, rs, 0, l, h, e => by
    obtain rfl : k = l := by simpa using e
    exact h.1
  | k :: ls, bs, rs, i + 1, l, h, e => by
    have h2 := h.2
    show ClrOk l.2 (part w (k.2 :: (ls.take i).map (·.2)) bs rs).1
    cases q : lead w (clr k.2 bs) with
    | none =>
      rw [part_none q] at h2 ⊢
      exact PartOk_at h2 (by simpa using e)
    | some c =>
      rw [part_some q] at h2 ⊢
      exact PartOk_at h2 (by simpa using e)
theorem plain_ints : ∀ xs : IRow, plainL (xs.map Dt.int) = true
  | [] => rfl
  | x :: xs => by
    show (plain (.int x) && plainL (xs.map Dt.int)) = true
    rw [plain_ints xs] <;> rfl
theorem noLst_ints : ∀ xs : IRow, noLstL (xs.map Dt.int) = true
  | [] => rfl
  | x :: xs => by
    show (noLst (.int x) && noLstL (xs.map Dt.int)) = true
    rw [noLst_ints xs] <;> rfl
theorem noLx_ints (ys : List Dt) : ∀ xs : IRow, noLxL ys (xs.map Dt.int)
  | [] => trivial
  | x :: xs => ⟨trivial, noLx_ints ys xs⟩
theorem plain_ln (l : Ln) : plain (lnD l) = true := by
  obtain ⟨t, xs⟩ := l
  cases t <;> exact plain_ints xs
theorem plain_bs : ∀ bs : BasL, plainL (bs.map bsD) = true
  | [] => rfl
  | p :: bs => by
    show ((true && (plain (lnD p.2) && true)) && plainL (bs.map bsD)) = true
    rw [plain_ln, plain_bs bs] <;> rfl
theorem sep_line {bs : BasL} {l : Ln} (h : 0 < l.2.length) : sepD (bs.map bsD) (lnD l) := by
  obtain ⟨t, xs⟩ := l
  cases t with
  | true => exact .inl (noLst_ints xs)
  | false =>
    refine .inr ⟨plain_ints xs, plain_bs bs, ?_, noLx_ints _ xs⟩
    cases xs with
    | nil => exact absurd h (Nat.lt_irrefl _)
    | cons x xs =>
      cases bs with
      | nil => intro e; cases e
      | cons p bs => intro e; cases e
theorem lists_cmp (rs : List IRow) : cmpOk (.lst (rs.map lisD)) = true := by simp [cmp_lst, cmp_tup, cmp_int]
theorem lists_dep (rs : List IRow) : dep (.lst (rs.map lisD)) ≤ 3 := by
  refine dep_lst.mpr fun x hx => ?_
  obtain ⟨r, _, rfl⟩ := List.mem_map.mp hx
  refine dep_lst.mpr fun y hy => ?_
  obtain ⟨i, _, rfl⟩ := List.mem_map.mp hy
  rw [dep_int] <;> decide
theorem ixN_of {n i : Nat} (h : i < n) : ixN n ((i : Nat) : Int) = some i := by
  unfold ixN
  rw [if_pos (by omega), if_pos (by omega), Int.toNat_natCast]
theorem set_mid {α : Type} : ∀ (pre : List α) (y z : α) (rest : List α) (n : Nat), n = pre.length → (pre ++ y :: rest).set n z = pre ++ z :: rest
  | [], y, z, rest, _, rfl => rfl
  | p :: pre, y, z, rest, _, rfl => by
    show p :: (pre ++ y :: rest).set pre.length z = _
    rw [set_mid pre y z rest _ rfl] <;> rfl
theorem erase_map {α β : Type} {f : α → β} {xs : List α} {k : Nat} : (xs.map f).eraseIdx k = (xs.eraseIdx k).map f := by
  apply List.ext_getElem?
  intro i
  rw [List.getElem?_eraseIdx, List.getElem?_map, List.getElem?_map, List.getElem?_map, List.getElem?_eraseIdx]
  split <;> rfl
theorem sep_rows {ls : List IRow} {x : IRow} (h : ls ≠ []) : sepD (ls.map lisD) (lisD x) := by
  refine .inr ⟨plain_ints x, by rw [plainL_all]; simp [plain_lst, plain_int], ?_, noLx_ints _ x⟩
  cases ls with
  | nil => exact absurd rfl h
  | cons y ls =>
    cases x with
    | nil => intro e; cases e
    | cons a x => intro e; cases e
theorem gr_le {n m : Nat} (h : n ≤ 47) (h2 : m ≤ 6) : gr n m ≤ top := by
  refine Nat.le_trans (gr_mono n h2) ?_
  unfold gr top
  have : (2 : Nat) ^ 6 = 64 := by decide
  omega
theorem perm_map {α : Type} {f : α → Dt} {ys zs : List Dt} (h : ys.Perm zs) : ∀ rs : List α, zs = rs.map f → ∃ rs' : List α, ys = rs'.map f ∧ rs'.Perm rs := by
  induction h with
  | nil => intro rs e; exact ⟨[], rfl, by cases rs with | nil => exact .refl _ | cons _ _ => cases e⟩
  | cons x h ih =>
    intro rs e
    cases rs with
    | nil => cases e
    | cons r rs =>
      rw [List.map_cons] at e
      obtain ⟨e1, e2⟩ := List.cons.inj e
      obtain ⟨rs', h1, h2⟩ := ih rs e2
      exact ⟨r :: rs', by rw [List.map_cons, e1, h1], h2.cons r⟩
  | swap x y l =>
    intro rs e
    match rs, e with
    | a :: c :: rs, e =>
      simp only [List.map_cons, List.cons.injEq] at e
      obtain ⟨e1, e2, e3⟩ := e
      exact ⟨c :: a :: rs, by simp only [List.map_cons, e1, e2, e3], .swap a c rs⟩
  | trans h1 h2 ih1 ih2 =>
    intro rs e
    obtain ⟨rs1, a1, a2⟩ := ih2 rs e
    obtain ⟨rs2, b1, b2⟩ := ih1 rs1 a1
    exact ⟨rs2, b1, b2.trans a2⟩
theorem flat_rep {α : Type} (x : α) (n : Nat) : (List.replicate n [x]).flatten = List.replicate n x := by
  induction n with
  | zero => rfl
  | succ n ih => rw [List.replicate_succ, List.flatten_cons, ih, List.replicate_succ] <;> rfl
theorem cut_tail {x : Dt} {xs : List Dt} : DL.cutD (x :: xs) (some 1) none = xs := by
  unfold DL.cutD
  have h1 : HT.sIx (x :: xs).length 0 (some 1) = 1 := by unfold HT.sIx; simp
  have h2 : HT.sIx (x :: xs).length (x :: xs).length none = (x :: xs).length := by unfold HT.sIx; simp
  rw [h1, h2]
  show (List.drop 0 xs).take _ = xs
  rw [List.drop_zero, List.take_of_length_le (by simp)]
theorem rows_cmp (rs : List IRow) : cmpOk (.lst (rs.map rowD)) = true := by simp [cmp_lst, cmp_tup, cmp_int]
theorem rows_dep (rs : List IRow) : dep (.lst (rs.map rowD)) ≤ 3 := by
  refine dep_lst.mpr fun x hx => ?_
  obtain ⟨r, _, rfl⟩ := List.mem_map.mp hx
  refine dep_tup.mpr fun y hy => ?_
  obtain ⟨i, _, rfl⟩ := List.mem_map.mp hy
  rw [dep_int] <;> decide
def widF : List Ln → Nat
  | [] => 0
  | l :: _ => l.2.length

open MX
theorem unit_rows (n k : Nat) : (List.range k).map (fun j => Dt.int (if j = n then 1 else 0)) = (unitR k n).map Dt.int := by unfold unitR; rw [List.map_map] <;> rfl
@[reducible] def solD (w n : Nat) (z : IRow) : Dt := match lead w z with
  | some _ => .non
  | none => .tup [.tup (((z.drop w).take n).map fun f => .int ((if 0 < z.getD (w + n) 0 then -1 else 1) * f)), .int (z.getD (w + n) 0).natAbs]
theorem sum_sm {α : Type} (d : α) (f : α → Int) (l : List α) : (l.map f).sum = sm l.length fun k => f (l.getD k d) := by
  have g : ∀ (m : Nat) (l : List α), l.length = m → (l.map f).sum = sm l.length fun k => f (l.getD k d) := fun m => by
    induction m with
    | zero => intro l h; rw [List.eq_nil_of_length_eq_zero h] <;> rfl
    | succ m ih =>
      intro l h
      have hne : l ≠ [] := fun e => by rw [e] at h; cases h
      obtain ⟨l', a, rfl⟩ : ∃ l' a, l = l' ++ [a] := ⟨l.dropLast, l.getLast hne, (List.dropLast_concat_getLast hne).symm⟩
      have hl : l'.length = m := by rw [List.length_append] at h; simpa using h
      rw [List.map_append, List.sum_append, ih l' hl, List.length_append]
      show _ = sm l'.length _ + f ((l' ++ [a]).getD l'.length d)
      rw [List.getD_eq_getElem?_getD (i := l'.length), List.getElem?_append_right (Nat.le_refl _), Nat.sub_self]
      have e : sm l'.length (fun k => f (l'.getD k d)) = sm l'.length fun k => f ((l' ++ [a]).getD k d) := sm_congr fun k hk => by
        rw [List.getD_eq_getElem?_getD (l := l' ++ [a]), List.getElem?_append_left hk, ← List.getD_eq_getElem?_getD]
      rw [e]
      simp
  exact g _ l rfl
theorem sm_mul (t : Int) (f : Nat → Int) : ∀ n : Nat, sm n (fun k => t * f k) = t * sm n f
  | 0 => by show (0 : Int) = t * 0; omega
  | n + 1 => by
    show sm n _ + t * f n = t * (sm n f + f n)
    rw [sm_mul t f n, Int.mul_add]
/-- what the factors sum up to -/
theorem sol_sum {w : Nat} {rs : List IRow} {x : IRow} (h : ∀ r ∈ rs, r.length = w) (hx : x.length = w) (e : lead w (restR w rs x) = none) (t : Int) (ht : t * (restR w rs x).getD (w + rs.length) 0 = -((restR w rs x).getD (w + rs.length) 0).natAbs) {j : Nat} (hj : j < w) :
    (((((restR w rs x).drop w).take rs.length).zip rs).map fun p => t * p.1 * p.2.getD j 0).sum = x.getD j 0 * (((restR w rs x).getD (w + rs.length) 0).natAbs : Int) := by
  have hl := rest_len h hx
  have ht2 := (rest_told h hx).1 j hj
  rw [lead_none e j hj] at ht2
  have hzl : ((((restR w rs x).drop w).take rs.length).zip rs).length = rs.length := by
    rw [List.length_zip, List.length_take, List.length_drop]; omega
  rw [sum_sm ((0 : Int), ([] : IRow)), hzl]
  have e1 : sm rs.length (fun k => t * (((((restR w rs x).drop w).take rs.length).zip rs).getD k (0, [])).1 * (((((restR w rs x).drop w).take rs.length).zip rs).getD k (0, [])).2.getD j 0) = sm rs.length fun k => t * ((restR w rs x).getD (w + k) 0 * (rs.getD k []).getD j 0) := sm_congr fun k hk => by
    have g1 : (((((restR w rs x).drop w).take rs.length).zip rs).getD k (0, [])) = ((restR w rs x).getD (w + k) 0, rs.getD k []) := by
      rw [List.getD_eq_getElem?_getD, List.zip, List.getElem?_zipWith, List.getElem?_take, if_pos hk, List.getElem?_drop, List.getD_eq_getElem?_getD, List.getD_eq_getElem?_getD, List.getElem?_eq_getElem (show w + k < (restR w rs x).length by omega), List.getElem?_eq_getElem hk] <;> rfl
    rw [g1, Int.mul_assoc]
  rw [e1, sm_mul]
  have e2 : sm rs.length (fun k => (restR w rs x).getD (w + k) 0 * (rs.getD k []).getD j 0) = -((restR w rs x).getD (w + rs.length) 0 * x.getD j 0) := by omega
  rw [e2, Int.mul_neg, ← Int.mul_assoc, ht, Int.neg_mul, Int.neg_neg, Int.mul_comm]
theorem solD_none {w n : Nat} {z : IRow} (e : lead w z = none) : solD w n z = .tup [.tup (((z.drop w).take n).map fun f => .int ((if 0 < z.getD (w + n) 0 then -1 else 1) * f)), .int (z.getD (w + n) 0).natAbs] := by
  show (match lead w z with | some _ => _ | none => _) = _
  rw [e] <;> rfl
theorem solD_some {w n c : Nat} {z : IRow} (e : lead w z = some c) : solD w n z = .non := by
  show (match lead w z with | some _ => _ | none => _) = _
  rw [e] <;> rfl
theorem sol_h00 : solD 2 ([] : List IRow).length (restR 2 [] [0, 0]) = .tup [.tup [], .int 1] := (solD_none (by decide)).trans rfl
theorem sol_h01 : solD 2 ([] : List IRow).length (restR 2 [] [0, 1]) = .non := solD_some (c := 1) (by decide)
def markPr (rs : List IRow) : List (IRow × Nat) := rs.zipIdx
theorem sol_same {fs : List Int} {o : Int} (h : fs.length ≤ 1000) : okS (.tup [.tup (fs.map Dt.int), .int o]) = true ∧ dep (.tup [.tup (fs.map Dt.int), .int o]) ≤ 3 := by
  have e : (fs.map Dt.int).all okS = true := by rw [List.all_map]; exact List.all_eq_true.mpr fun _ _ => rfl
  refine ⟨?_, dep_tup.mpr fun x hx => ?_⟩
  · rw [okS_tup]
    show (decide (2 ≤ 100000) && (okS (.tup (fs.map Dt.int)) && (true && true))) = true
    rw [okS_tup, e, decide_eq_true (show (fs.map Dt.int).length ≤ 100000 by rw [List.length_map]; omega)] <;> rfl
  · simp at hx
    rcases hx with rfl | rfl
    · refine dep_tup.mpr fun y hy => ?_
      obtain ⟨i, _, rfl⟩ := List.mem_map.mp hy
      rw [dep_int] <;> decide
    · rw [dep_int]; decide
theorem xs_ok (xs : IRow) (o : Int) : eqOk (.lst (xs.map fun y => Dt.int (y * o))) = true ∧ PyData.eqv (py (.lst (xs.map fun y => Dt.int (y * o)))) (py (.lst (xs.map fun y => Dt.int (y * o)))) = true := by
  have h1 : cmpOk (.lst (xs.map fun y => Dt.int (y * o))) = true := by
    rw [cmp_lst, List.all_map]
    exact List.all_eq_true.mpr fun _ _ => rfl
  have h2 : dep (.lst (xs.map fun y => Dt.int (y * o))) ≤ 2 := by
    refine dep_lst.mpr fun x hx => ?_
    obtain ⟨y, _, rfl⟩ := List.mem_map.mp hx
    rw [dep_int] <;> decide
  exact ⟨eqOk_of (n := 2) h1 h2, eqv_same h1⟩
theorem zip_range {α : Type} (rs : List α) : rs.zip (List.range rs.length) = rs.zipIdx := by
  apply List.ext_getElem?
  intro i
  rw [List.getElem?_zipIdx, List.zip, List.getElem?_zipWith]
  by_cases h : i < rs.length
  · rw [List.getElem?_range h]; cases rs[i]? <;> simp
  · rw [List.getElem?_eq_none (l := rs) (by omega)] <;> rfl
theorem cutD_suf {xs : List Dt} {k : Nat} (h : k ≤ xs.length) : DL.cutD xs (some (k : Int)) none = xs.drop k := by
  unfold DL.cutD
  rw [HT.sIx_nat, HT.sIx_none, Nat.min_eq_left h, List.take_of_length_le (by rw [List.length_drop]; omega)]
theorem st_own {z : IRow} {w n : Nat} (h : z.length = w + n + 1) : stD 2 0 ((z.map Dt.int).drop w) = [.lst (((z.drop w).take n).map Dt.int), .int (z.getD (w + n) 0)] := by
  have hl : ((z.map Dt.int).drop w).length = n + 1 := by rw [List.length_drop, List.length_map]; omega
  unfold stD
  rw [hl, List.drop_zero, List.take_zero, List.nil_append, show n + 1 + 1 - 2 = n from rfl, List.drop_drop, List.map_take, List.map_drop]
  have e : (z.map Dt.int).drop (w + n) = [.int (z.getD (w + n) 0)] := by
    rw [List.drop_eq_getElem_cons (by rw [List.length_map]; omega), List.drop_eq_nil_of_le (by rw [List.length_map]; omega), List.getElem_map, List.getD_eq_getElem?_getD, List.getElem?_eq_getElem (by omega)] <;> rfl
  rw [e] <;> rfl
theorem div_bd {z g : Int} (hg : 1 ≤ g) : (z / g).natAbs ≤ z.natAbs := by
  by_cases hz : 0 ≤ z
  · have h1 := Int.ediv_nonneg hz (by omega : 0 ≤ g)
    have h2 := Int.ediv_le_self g hz
    omega
  · have h0 := Int.mul_nonneg (by omega : 0 ≤ -z) (by omega : 0 ≤ g - 1)
    rw [Int.neg_mul, Int.mul_sub, Int.mul_one] at h0
    have h1 : z ≤ z / g := Int.le_ediv_of_mul_le (by omega) (by omega)
    have h2 : z / g < 0 := Int.ediv_lt_of_lt_mul (by omega) (by omega)
    omega
theorem zip_mark (rs : List IRow) : zipD (rs.map rowD) ((List.range rs.length).map fun i => rowD (unitR rs.length i)) = rs.zipIdx.map fun p => .tup [rowD p.1, rowD (unitR rs.length p.2)] := by
  rw [zipD_map, zip_range]

theorem gr_gr (n i j : Nat) : gr (gr n i) j = gr n (i + j) := by
  unfold gr
  have : 0 < (n + 1) * 2 ^ i := Nat.mul_pos (by omega) (Nat.pow_pos (by decide))
  rw [Nat.sub_add_cancel this, Nat.pow_add, Nat.mul_assoc]
theorem noLst_rows : ∀ zs : List IRow, noLstL (zs.map rowD) = true
  | [] => rfl
  | z :: zs => by
    show (noLstL (z.map Dt.int) && noLstL (zs.map rowD)) = true
    rw [noLst_ints, noLst_rows zs] <;> rfl
theorem rows_same {zs : List IRow} (h : zs.length ≤ 1000) (g : ∀ z ∈ zs, z.length ≤ 1000) : okS (rowsD zs) = true ∧ dep (rowsD zs) ≤ 3 := by
  refine ⟨?_, dep_lst.mpr fun x hx => ?_⟩
  · rw [okS_lst, decide_eq_true (show (zs.map rowD).length ≤ 100000 by rw [List.length_map]; omega), List.all_map]
    refine (Bool.true_and _).trans (List.all_eq_true.mpr fun z hz => ?_)
    have e : (z.map Dt.int).all okS = true := by rw [List.all_map]; exact List.all_eq_true.mpr fun _ _ => rfl
    show okS (.tup (z.map Dt.int)) = true
    rw [okS_tup, e, decide_eq_true (show (z.map Dt.int).length ≤ 100000 by rw [List.length_map]; have := g z hz; omega)] <;> rfl
  · obtain ⟨z, _, rfl⟩ := List.mem_map.mp hx
    refine dep_tup.mpr fun y hy => ?_
    obtain ⟨i, _, rfl⟩ := List.mem_map.mp hy
    rw [dep_int] <;> decide
theorem widF_rows {w : Nat} {rs : List IRow} (h : ∀ r ∈ rs, r.length = w) : widF (rs.map fun r => ((true, r) : Ln)) = if rs = [] then 0 else w := by
  cases rs with
  | nil => rfl
  | cons r rs =>
    rw [if_neg (by simp)]
    exact h r List.mem_cons_self

theorem ok_bag (Z : Fc K mg) : FnOk P w K mg base CX0 1 Z.a_bag Z.fd_bag P_bag (spBag K) := by
  refine Z.F_bag.ok sc_bag (fun vs H Q E h => ?_) (fun cdv A outer s H vs Q E hr h => ?_)
  · obtain ⟨a, ns, rfl, _⟩ := h
    rfl
  · obtain ⟨a, ns, rfl, hS, hl, q⟩ := h
    have nd := sc_bag.nd
    refine ⟨_, pss_cons (ps_setLc (i := 1) rfl nd rfl rfl (sw_true rfl rfl rfl (by decide +kernel)) (pi_list (pe_slice sl_list (pv 0) po_none (po_some pe_int))) (blkOk_by (own := [("_law_cell", 3)]) (N := N_bag) (sc := defScope s_bag) (by decide +kernel)) (fun _ _ _ _ _ => pg_name (i := 3) nd rfl (.inl rfl)) (fun _ _ _ _ _ => pts_nil)
        (fun _ _ _ _ _ => pe_callTy call_int1 (by rfl) Z.z_int (by decide +kernel) (pa_cons (pv 3) pa_nil)))
      (pss_cons (ps_set (i := 2) nd rfl (.inl rfl) (pe_op op_add pe_int (pe_op op_mul pe_int (pe_callB call_len (by rfl) Z.z_len PySem.boot_len (pa_cons (pv 1) pa_nil)))))
      (pss_cons (ps_for PassesOwn.never rfl (pi_list (pv 1)) (pg_name (i := 3) nd rfl (.inl rfl)) (pss_one (ps_set (i := 2) nd rfl (.inl rfl) (pe_op op_mod (pe_callTy call_int1 (by rfl) Z.z_int (by decide +kernel) (pa_cons (pe_op op_add (pe_op op_mul (pv 2) pe_int) (pv 3)) pa_nil)) pe_int))))
      (pss_one (ps_ret (pe_lst (pa_cons (pv 1) (pa_cons pe_int (pa_cons pe_int (pa_cons (pv 2) (pa_cons pe_int pa_nil)))))))))), ?_⟩
    exact read_bag hS hl rfl rfl (by decide) (by decide) q
theorem ok_take (Z : Fc K mg) (a : Addr) (nm : Addr → Str) (tb : List Addr) : FnOk P w K mg base CX0 1 Z.a_take Z.fd_take P_take (spD ⟨some a, nm, tb⟩ 2 takeT) := by
  refine fn_take Z.F_take sc_take fun X outer cdv A s H E hX hr => ?_
  subst hX
  have nd := sc_take.nd
  refine ⟨_, (ss_cons (s_setIx 0 (x_lend 0 (x_addI (x_ix (xv 0) x_int) x_int)) x_int)
      (ss_cons (s_if (t_w (w_and (t_lend 0 (t_lt (x_ix (xv 0) x_int) x_int)) (w_and1 (t_lend 0 (t_lt (x_ix (xv 0) x_int) (x_len (by rfl) Z.z_len (a_cons (x_ix (xv 0) x_int) a_nil))))))) (ss_cons (s_set (i := 2) nd rfl (.inl rfl) (x_lend 0 (x_ix (x_ix (xv 0) x_int) (x_ix (xv 0) x_int))))
      (ss_cons (s_setIx 0 (x_lend 0 (x_addI (x_ix (xv 0) x_int) x_int)) x_int)
      (ss_cons (s_setIx 0 (x_lend 0 (x_mod (x_intOf (by rfl) Z.z_int (a_cons (x_addI (x_addI (x_mul (x_ix (xv 0) x_int) x_int) (x_mul (x_mod (x_intOf (by rfl) Z.z_int (a_cons (xv 2) a_nil)) x_int) x_int)) (x_ix (xv 0) x_int)) a_nil)) x_int)) x_int)
      (ss_one (s_setIx 0 (x_if (t_ge (xv 2) (x_pow x_int x_int)) (xv 2) x_int) x_int))))) ss_nil)
      (ss_cons (s_if (t_lend 0 (t_gt (x_ix (xv 0) x_int) x_int)) (ss_cons (s_set (i := 3) nd rfl (.inl rfl) (x_lend 0 (x_mod (x_intOf (by rfl) Z.z_int (a_cons (x_ix (xv 0) x_int) a_nil)) (xv 1))))
      (ss_cons (s_setIx 0 (x_lend 0 (x_fdiv (x_ix (xv 0) x_int) (xv 1))) x_int)
      (ss_one (s_ret (xv 3))))) ss_nil)
      (ss_cons (s_set (i := 4) nd rfl (.inl rfl) (x_lend 0 (x_mod (x_intOf (by rfl) Z.z_int (a_cons (x_addI (x_ix (xv 0) x_int) (x_mul (x_ix (xv 0) x_int) x_int)) a_nil)) x_int)))
      (ss_cons (s_setIx 0 (x_mod (x_intOf (by rfl) Z.z_int (a_cons (x_addI (x_addI (x_mul (xv 4) (xv 4)) (x_mul (xv 4) x_int)) x_int) a_nil)) x_int) x_int)
      (ss_one (s_ret (x_lend 0 (x_mod (x_intOf (by rfl) Z.z_int (a_cons (x_addI (x_fdiv (x_ix (xv 0) x_int) x_int) (x_mul (x_mod (x_intOf (by rfl) Z.z_int (a_cons (x_ix (xv 0) x_int) a_nil)) x_int) x_int)) a_nil)) (xv 1)))))))))), ?_⟩
  intro cs i v m z n hcs m0 m1 n0 n1
  have e0 : ∀ x : Int, 0 ≤ x % 2147483563 := fun x => Int.emod_nonneg _ (by decide)
  have e1 : ∀ x : Int, x % 2147483563 < 2147483563 := fun x => Int.emod_lt_of_pos _ (by decide)
  have r0 : ∀ x : Int, 0 ≤ x % n := fun x => Int.emod_nonneg _ (by omega)
  have r1 : ∀ x : Int, x % n < n := fun x => Int.emod_lt_of_pos _ n0
  walk_at "go"
  split <;> walk_at "go"
  · split <;> rename_i hb <;> walk_at "go"
    · have hi : i < cs.length := by
        have h2 := of_decide_eq_true hb
        rw [List.length_map] at h2
        omega
      refine ⟨.int cs[i], ?_, ?_⟩
      · exact atI_nat (by rw [List.getElem?_map, List.getElem?_eq_getElem hi] <;> rfl)
      walk_at "go"
      split <;> walk_at "go"
      · split <;> walk_at "go" <;> (refine' takeEnd (i + 1) ?h ?a ?b ?c ?d; (case h => exact rfl); (case a => exact e0 _); (case b => exact e1 _); (case c => exact r0 _); (case d => exact r1 _))
      · split <;> rename_i hz
        · exact absurd hz (by decide)
        walk_at "go"
        (refine' takeEnd (i + 1) ?h ?a ?b ?c ?d; (case h => exact rfl); (case a => exact e0 _); (case b => exact e1 _); (case c => exact r0 _); (case d => exact r1 _))
    · split <;> walk_at "go" <;> first | (refine' takeEnd i ?h ?a ?b ?c ?d; (case h => exact rfl); (case a => exact m0); (case b => exact m1); (case c => exact r0 _); (case d => exact r1 _)) | (refine' takeEnd i ?h ?a ?b ?c ?d; (case h => exact rfl); (case a => exact e0 _); (case b => exact e1 _); (case c => exact r0 _); (case d => exact r1 _))
  · split <;> walk_at "go" <;> first | (refine' takeEnd i ?h ?a ?b ?c ?d; (case h => exact rfl); (case a => exact m0); (case b => exact m1); (case c => exact r0 _); (case d => exact r1 _)) | (refine' takeEnd i ?h ?a ?b ?c ?d; (case h => exact rfl); (case a => exact e0 _); (case b => exact e1 _); (case c => exact r0 _); (case d => exact r1 _))

theorem ok_of (Z : Fc K mg) (G_take : FnOk P w K mg base CX0 1 Z.a_take Z.fd_take P_take (spD b 2 takeT)) : FnOk P w K mg base CX0 2 Z.a_of Z.fd_of P_of (spD b 2 ofT) := by
  refine fn_D Z.F_of sc_of fun X outer cdv A s H E hX hr => ?_
  subst hX
  have nd := sc_of.nd
  refine ⟨_, (ss_one (s_ret (x_ix (xv 1) (x_call (CX := CX0) (G_take) (hr.mono (by decide)) (by rfl) Z.g_take Z.F_take.kp Z.b_take (a_cons (xv 0) (a_cons (x_len (by rfl) Z.z_len (a_cons (xv 1) a_nil)) a_nil)))))), fun ds R hl hT => ?_⟩
  match ds, hT with
  | [.bag, .lst xs], ⟨h1, h2, h3⟩ =>
    rw [show startD N_of [Dt.bag, Dt.lst xs] = [.val .bag, .val (.lst xs)] from rfl]
    walk_at "go"
    intro r q0 q1
    obtain ⟨d, d1, d2⟩ := atI_mem q0 q1
    exact ⟨d, d2, h3 d d1⟩
  | [.bag, .tup xs], ⟨h1, h2, h3⟩ =>
    rw [show startD N_of [Dt.bag, Dt.tup xs] = [.val .bag, .val (.tup xs)] from rfl]
    walk_at "go"
    intro r q0 q1
    obtain ⟨d, d1, d2⟩ := atI_mem q0 q1
    exact ⟨d, d2, h3 d d1⟩
  | [.bag, .str z], ⟨h1, h2, h3⟩ =>
    rw [show startD N_of [Dt.bag, Dt.str z] = [.val .bag, .val (.str z)] from rfl]
    walk_at "go"
    intro r q0 q1
    have hz : z.length = z.cps.toList.length := rfl
    obtain ⟨c, d1, d2⟩ := atI_mem (xs := z.cps.toList) q0 (by rw [← hz]; exact q1)
    exact ⟨h2, c, d2, h3 c d1⟩

@[reducible] def sp_numbers : DSp := fun ds P => match ds with
  | [.bag, .int n] => 0 ≤ n ∧ n ≤ 1000 ∧ ∀ xs : IRow, xs.length = n.toNat → Bd 29 xs → P (rowD xs)
  | _ => False
theorem ok_numbers (Z : Fc K mg) (G_of : FnOk P w K mg base CX0 2 Z.a_of Z.fd_of P_of (spD b 2 ofT)) (G_take : FnOk P w K mg base CX0 1 Z.a_take Z.fd_take P_take (spD b 2 takeT)) : FnOk P w K mg base CX0 3 Z.a_numbers Z.fd_numbers P_numbers (spD b 2 sp_numbers) := by
  refine fn_D Z.F_numbers sc_numbers fun X outer cdv A s H E hX hr => ?_
  subst hX
  have nd := sc_numbers.nd
  refine ⟨_, (ss_one (s_ret (x_tupleOf (by rfl) Z.z_tuple (a_cons (x_l (l_lc rfl nd (vs := [2]) (i_rng1 (by rfl) Z.z_range (a_cons (xv 1) a_nil)) (blkOk_by (own := [("_law_k", 2)]) (N := N_numbers) (sc := (defScope s_numbers)) (by decide +kernel)) (fun _ => (g_name (i := 2) nd rfl (by first | exact .inl rfl | exact .inr rfl))) (fun _ => ts_nil) (fun _ => (x_call (CX := CX0) (G_of) (hr.mono (by decide)) (by rfl) Z.g_of Z.F_of.kp Z.b_of (a_cons (xv 0) (a_cons (x_l (l_lst (a_cons x_int (a_cons x_int (a_cons x_int (a_cons (x_neg x_int) (a_cons (x_sub (x_call (CX := CX0) (G_take) (hr.mono (by decide)) (by rfl) Z.g_take Z.F_take.kp Z.b_take (a_cons (xv 0) (a_cons x_int a_nil))) x_int) (a_cons (x_sub (x_call (CX := CX0) (G_take) (hr.mono (by decide)) (by rfl) Z.g_take Z.F_take.kp Z.b_take (a_cons (xv 0) (a_cons (x_pow x_int x_int) a_nil))) (x_mul x_int (x_pow x_int x_int))) a_nil)))))))) a_nil)))) (by simp))) a_nil)))), fun ds R hl hT => ?_⟩
  match ds, hT with
  | [.bag, .int n], ⟨h0, h1, hR⟩ =>
    rw [show startD N_numbers [Dt.bag, Dt.int n] = [.val .bag, .val (.int n), .un] from rfl]
    walk_at "gs"
    refine ⟨by rw [rngD_len]; omega, ?_⟩
    refine wd_any (as := List.range n.toNat) (g := fun i => Dt.int (0 + (i : Nat))) (h := Dt.int) (p := fun _ _ v => v.natAbs < 2 ^ 29) rfl (fun i a ha Q hQ => ?_) (fun bs hl hp => ?_)
    · walk_at "gs"
      intro t t0 t1
      walk_at "gs"
      intro u u0 u1
      walk_at "gs"
      intro d hd
      have e9 : (10 : Int) ^ Int.toNat 9 = 1000000000 := by decide
      have e8 : (10 : Int) ^ Int.toNat 8 = 100000000 := by decide
      have e29 : (2 : Nat) ^ 29 = 536870912 := by decide
      rw [e9] at u1
      rw [e8] at hd
      simp only [List.mem_cons, List.not_mem_nil, or_false] at hd
      rcases hd with h | h | h | h | h | h <;> (rw [h]; exact hQ _ (by omega))
    · walk_at "gs"
      rw [List.length_range] at hl
      refine hR bs hl fun x hx => ?_
      obtain ⟨i, hi⟩ := List.getElem?_of_mem hx
      have hil := (List.getElem?_eq_some_iff.mp hi).1
      exact hp i i x (List.getElem?_range (by omega)) hi

@[reducible] def sp_lines : DSp := fun ds P => match ds with
  | [.bag, .int n, .int m] => 0 ≤ n ∧ n ≤ 1000 ∧ 0 ≤ m ∧ m ≤ 1000 ∧ ∀ rs : List IRow, rs.length = n.toNat → (∀ r, r ∈ rs → r.length = m.toNat ∧ Bd (29 + 2 * n.toNat) r) → P (rowsD rs)
  | _ => False
theorem ok_lines (Z : Fc K mg) (G_numbers : FnOk P w K mg base CX0 3 Z.a_numbers Z.fd_numbers P_numbers (spD b 2 sp_numbers)) (G_of : FnOk P w K mg base CX0 2 Z.a_of Z.fd_of P_of (spD b 2 ofT)) (G_take : FnOk P w K mg base CX0 1 Z.a_take Z.fd_take P_take (spD b 2 takeT)) : FnOk P w K mg base CX0 4 Z.a_lines Z.fd_lines P_lines (spD b 3 sp_lines) := by
  refine fn_D Z.F_lines sc_lines fun X outer cdv A s H E hX hr => ?_
  subst hX
  have nd := sc_lines.nd
  refine ⟨_, (ss_cons (s_setL (i := 3) nd rfl (.inl rfl) (l_lst a_nil))
      (ss_cons (s_for rfl (i_rng1 (by rfl) Z.z_range (a_cons (xv 1) a_nil)) (g_name (i := 4) nd rfl (by first | exact .inl rfl | exact .inr rfl)) (ss_cons (s_set (i := 5) nd rfl (.inl rfl) (x_call (CX := CX0) (G_numbers) (hr.mono (by decide)) (by rfl) Z.g_numbers Z.F_numbers.kp Z.b_numbers (a_cons (xv 0) (a_cons (xv 2) a_nil))))
      (ss_cons (s_if (t_w (w_and (t_lend 3 (t_ne hr.units (xv 3) (x_l (l_lst a_nil)))) (w_and1 (t_eq hr.units (x_call (CX := CX0) (G_take) (hr.mono (by decide)) (by rfl) Z.g_take Z.F_take.kp Z.b_take (a_cons (xv 0) (a_cons x_int a_nil))) x_int)))) (ss_cons (s_asg (x_lend 3 (x_tup (a_cons (x_call (CX := CX0) (G_of) (hr.mono (by decide)) (by rfl) Z.g_of Z.F_of.kp Z.b_of (a_cons (xv 0) (a_cons (xv 3) a_nil))) (a_cons (x_call (CX := CX0) (G_of) (hr.mono (by decide)) (by rfl) Z.g_of Z.F_of.kp Z.b_of (a_cons (xv 0) (a_cons (xv 3) a_nil))) (a_cons (x_sub (x_call (CX := CX0) (G_take) (hr.mono (by decide)) (by rfl) Z.g_take Z.F_take.kp Z.b_take (a_cons (xv 0) (a_cons x_int a_nil))) x_int) a_nil))))) (g_tup' (m := 3) rfl (gs_cons (g_name (i := 6) nd rfl (by first | exact .inl rfl | exact .inr rfl)) (gs_cons (g_name (i := 7) nd rfl (by first | exact .inl rfl | exact .inr rfl)) (gs_cons (g_name (i := 8) nd rfl (by first | exact .inl rfl | exact .inr rfl)) gs_nil)))))
      (ss_one (s_set (i := 5) nd rfl (.inl rfl) (x_tupleOf (by rfl) Z.z_tuple (a_cons (x_l (l_lc rfl nd (vs := [9, 10]) (i_zip2 (by rfl) Z.z_zip (a_cons (xv 6) (a_cons (xv 7) a_nil))) (blkOk_by (own := [("_law_a", 9), ("_law_b", 10)]) (N := N_lines) (sc := (defScope s_lines)) (by decide +kernel)) (fun _ => (g_tup' (m := 2) rfl (gs_cons (g_name (i := 9) nd rfl (by first | exact .inl rfl | exact .inr rfl)) (gs_cons (g_name (i := 10) nd rfl (by first | exact .inl rfl | exact .inr rfl)) gs_nil)))) (fun _ => ts_nil) (fun _ => (x_addI (xv 9) (x_mul (xv 8) (xv 10)))) (by simp))) a_nil))))) ss_nil)
      (ss_one (s_app 3 (xv 5))))))
      (ss_one (s_retO 3)))), fun ds R hl hT => ?_⟩
  match ds, hT with
  | [.bag, .int n, .int m], ⟨h0, h1, h2, h3, hR⟩ =>
    rw [show startD N_lines [Dt.bag, Dt.int n, Dt.int m] = [.val .bag, .val (.int n), .val (.int m), .un, .un, .un, .un, .un, .un, .un, .un] from rfl]
    walk_at "gs"
    intro l
    walk_at "gs"
    refine for_of (as := List.range n.toNat) (g := fun i => Dt.int (0 + (i : Nat))) (Iv := fun i γ => ∃ (rs : List IRow) (s4 s5 s6 s7 s8 s9 s10 : Sl), γ = [.val .bag, .val (.int n), .val (.int m), .own l (rs.map rowD), s4, s5, s6, s7, s8, s9, s10] ∧ rs.length = i ∧ ∀ r, r ∈ rs → r.length = m.toNat ∧ Bd (29 + 2 * i) r) rfl ?_ (fun i a γ' hi hI => ?_) (fun γ' hI => ?_)
    · exact ⟨[], _, _, _, _, _, _, _, rfl, rfl, fun r hr => by cases hr⟩
    · obtain ⟨rs, s4, s5, s6, s7, s8, s9, s10, rfl, hl, hr⟩ := hI
      have hi2 : i < n.toNat := by have := (List.getElem?_eq_some_iff.mp hi).1; simpa using this
      have hlm : (rs.map rowD).length = i := by rw [List.length_map]; exact hl
      walk_at "gs"
      intro xs hx hb
      walk_at "gs"
      have fin : ∀ ys : IRow, ys.length = m.toNat → Bd (29 + 2 * (i + 1)) ys → (rs ++ [ys]).length = i + 1 ∧ ∀ r, r ∈ rs ++ [ys] → r.length = m.toNat ∧ Bd (29 + 2 * (i + 1)) r := fun ys y1 y2 => by
        refine ⟨by rw [List.length_append, hl] <;> rfl, fun r hr2 => ?_⟩
        rcases List.mem_append.mp hr2 with h | h
        · exact ⟨(hr r h).1, (hr r h).2.mono (by omega)⟩
        · obtain rfl := List.mem_singleton.mp h
          exact ⟨y1, y2⟩
      have fx := fin xs hx (hb.mono (by omega))
      have ea : ∀ ys : IRow, rs.map rowD ++ [rowD ys] = (rs ++ [ys]).map rowD := fun ys => by rw [List.map_append] <;> rfl
      refine ⟨eqOk_of (n := 3) (rows_cmp rs) (rows_dep rs), by decide, ?_⟩
      have hcmp : (py (Dt.lst (rs.map rowD))).eqv (py (Dt.lst [])) = rs.isEmpty := by cases rs <;> rfl
      rw [hcmp]
      cases he : rs.isEmpty with
      | true =>
        walk_at "gs"
        rw [ea]
        exact ⟨_, _, _, _, _, _, _, _, rfl, fx⟩
      | false =>
        have hpo : 0 < (rs.map rowD).length := by
          cases rs with
          | nil => cases he
          | cons _ _ => simp
        walk_at "gs"
        intro t t0 t1
        walk_at "gs"
        split
        · walk_at "gs"
          intro d1 hd1
          obtain ⟨r1, hr1, rfl⟩ := List.mem_map.mp hd1
          obtain ⟨l1, b1⟩ := hr r1 hr1
          walk_at "gs"
          intro d2 hd2
          obtain ⟨r2, hr2, rfl⟩ := List.mem_map.mp hd2
          obtain ⟨l2, b2⟩ := hr r2 hr2
          walk_at "gs"
          intro c c0 c1
          walk_at "gs"
          refine ⟨?_, ?_⟩
          · show (noLstL (r1.map Dt.int) && (noLstL (r2.map Dt.int) && true)) = true
            rw [noLst_ints, noLst_ints] <;> rfl
          walk_at "gs"
          refine ⟨by rw [List.length_map, List.length_map, l1, l2], ?_⟩
          walk_at "gs"
          refine ⟨by rw [zipD_len]; simp; omega, ?_⟩
          refine wd_map (as := r1.zip r2) (g := fun p => .tup [.int p.1, .int p.2]) (f := fun p => .int (p.1 + (c - 3) * p.2)) zipD_map (fun j p hp Q hQ => ?_) ?_
          · walk_at "gs"
            exact ⟨.inl ⟨by omega, by omega⟩, hQ⟩
          · walk_at "gs"
            rw [zip_int (h := fun a b => a + (c - 3) * b), ea]
            refine ⟨_, _, _, _, _, _, _, _, rfl, fin _ (by rw [List.length_zipWith]; omega) fun x hx2 => ?_⟩
            obtain ⟨k, hk⟩ := List.getElem?_of_mem hx2
            rw [List.getElem?_zipWith] at hk
            cases e1 : r1[k]? with
            | none => rw [e1] at hk; cases hk
            | some a =>
              cases e2 : r2[k]? with
              | none => rw [e1, e2] at hk; cases hk
              | some b' =>
                rw [e1, e2] at hk
                have ex : x = a + (c - 3) * b' := (Option.some.inj hk).symm
                have q1 := b1 a (List.mem_of_getElem? e1)
                have q2 := b2 b' (List.mem_of_getElem? e2)
                have e4 : 2 ^ (29 + 2 * (i + 1)) = 2 ^ (29 + 2 * i) * 4 := by rw [show 29 + 2 * (i + 1) = (29 + 2 * i) + 2 by omega, Nat.pow_add]
                have hc : c - 3 = -3 ∨ c - 3 = -2 ∨ c - 3 = -1 ∨ c - 3 = 0 ∨ c - 3 = 1 ∨ c - 3 = 2 ∨ c - 3 = 3 := by omega
                rw [e4, ex]
                rcases hc with h | h | h | h | h | h | h <;> rw [h] <;> omega
        · walk_at "gs"
          rw [ea]
          exact ⟨_, _, _, _, _, _, _, _, rfl, fx⟩
    · obtain ⟨rs, s4, s5, s6, s7, s8, s9, s10, rfl, hl, hr⟩ := hI
      walk_at "gs"
      rw [List.length_range] at hl hr
      refine hR rs hl fun r h => ⟨(hr r h).1, (hr r h).2.mono (by omega)⟩

def sp__width_of : DSp := fun ds P => ∃ (ls : List Ln) (s0 : Dt), ds = [s0] ∧ (s0 = .lst (ls.map lnD) ∨ s0 = .tup (ls.map lnD)) ∧ P (.int (widF ls : Nat))
theorem ok__width_of (Z : Fc K mg)  : FnOk P w K mg base CX0 1 Z.a__width_of Z.fd__width_of P__width_of (spD b 1 sp__width_of) := by
  refine fn_D Z.F__width_of sc__width_of fun X outer cdv A s H E hX hr => ?_
  subst hX
  have nd := sc__width_of.nd
  refine ⟨_, (ss_one (s_ret (x_if (t_truth (xv 0)) (x_len (by rfl) Z.z_len (a_cons (x_ix (xv 0) x_int) a_nil)) x_int))), fun ds R hl hT => ?_⟩
  obtain ⟨ls, s0, rfl, hs0, hR⟩ := hT
  cases ls with
  | nil =>
    rcases hs0 with rfl | rfl
    · rw [show startD N__width_of [Dt.lst ([].map lnD)] = [.val (.lst [])] from rfl]
      walk_at "gs"
      exact hR
    · rw [show startD N__width_of [Dt.tup ([].map lnD)] = [.val (.tup [])] from rfl]
      walk_at "gs"
      exact hR
  | cons l ls =>
    obtain ⟨t, xs⟩ := l
    have e0 : ∀ d : Dt, atI (d :: ls.map lnD) 0 = some d := fun d => atI_nat (j := 0) rfl
    have hR2 : R (.int ((xs.map Dt.int).length : Nat)) := by rw [List.length_map]; exact hR
    rcases hs0 with rfl | rfl <;> cases t
    · rw [show startD N__width_of [Dt.lst (((false, xs) :: ls).map lnD)] = [.val (.lst (lisD xs :: ls.map lnD))] from rfl]
      walk_at "gs"
      refine ⟨_, e0 _, ?_⟩
      walk_at "gs"
      exact hR2
    · rw [show startD N__width_of [Dt.lst (((true, xs) :: ls).map lnD)] = [.val (.lst (rowD xs :: ls.map lnD))] from rfl]
      walk_at "gs"
      refine ⟨_, e0 _, ?_⟩
      walk_at "gs"
      exact hR2
    · rw [show startD N__width_of [Dt.tup (((false, xs) :: ls).map lnD)] = [.val (.tup (lisD xs :: ls.map lnD))] from rfl]
      walk_at "gs"
      refine ⟨_, e0 _, ?_⟩
      walk_at "gs"
      exact hR2
    · rw [show startD N__width_of [Dt.tup (((true, xs) :: ls).map lnD)] = [.val (.tup (rowD xs :: ls.map lnD))] from rfl]
      walk_at "gs"
      refine ⟨_, e0 _, ?_⟩
      walk_at "gs"
      exact hR2

def sp__shortened : DSp := fun ds P => ∃ xs : IRow, ds = [lisD xs] ∧ xs.length ≤ 100000 ∧ Bd top xs ∧ P (lisD (shortF xs))
theorem ok__shortened (Z : Fc K mg)  : FnOk P w K mg base CX0 1 Z.a__shortened Z.fd__shortened P__shortened (spD b 1 sp__shortened) := by
  refine fn_D Z.F__shortened sc__shortened fun X outer cdv A s H E hX hr => ?_
  subst hX
  have nd := sc__shortened.nd
  refine ⟨_, (ss_cons (s_set (i := 1) nd rfl (.inr rfl) x_int)
      (ss_cons (s_for rfl (i_list (xv 0)) (g_name (i := 2) nd rfl (by first | exact .inl rfl | exact .inr rfl)) (ss_cons (s_set (i := 1) nd rfl (.inr rfl) (x_gcd (by rfl) Z.m_gcd (a_cons (xv 1) (a_cons (xv 2) a_nil))))
      (ss_one (s_if (t_eq hr.units (xv 1) x_int) (ss_one (s_ret (xv 0))) ss_nil))))
      (ss_cons (s_if (t_eq hr.units (xv 1) x_int) (ss_one (s_ret (xv 0))) ss_nil)
      (ss_one (s_ret (x_l (l_lc rfl nd (vs := [2]) (i_list (xv 0)) (blkOk_by (own := [("number", 2)]) (N := N__shortened) (sc := (defScope s__shortened)) (by decide +kernel)) (fun _ => (g_name (i := 2) nd rfl (by first | exact .inl rfl | exact .inr rfl))) (fun _ => ts_nil) (fun _ => (x_fdivW (xv 2) (xv 1))) (by simp)))))))), fun ds R hl hT => ?_⟩
  obtain ⟨xs, rfl, h0, hb, hR⟩ := hT
  rw [show startD N__shortened [lisD xs] = [.val (lisD xs), .un, .un] from rfl]
  walk_at "gs"
  refine for_of (as := xs) (g := Dt.int) (Iv := fun i γ => ∃ s2 : Sl, γ = [.val (lisD xs), .val (.int (gcdL (xs.take i) : Nat)), s2] ∧ gcdL (xs.take i) ≠ 1) rfl ?_ (fun i x γ' hx hI => ?_) (fun γ' hI => ?_)
  · exact ⟨_, rfl, by simp [gcdL]⟩
  · obtain ⟨s2, rfl, hn⟩ := hI
    walk_at "gs"
    have e : gcdL (xs.take (i + 1)) = Nat.gcd (gcdL (xs.take i)) x.natAbs := by rw [List.take_add_one, hx]; exact gcdL_app _ _
    simp only [Int.natAbs_natCast, ← e]
    by_cases h1 : gcdL (xs.take (i + 1)) = 1
    · rw [decB (show ((gcdL (xs.take (i + 1)) : Nat) : Int) = 1 by omega)]
      walk_at "gs"
      have := gcdL_one h1
      have e2 : shortF xs = xs := by unfold shortF; rw [if_pos (by omega)]
      rw [e2] at hR
      exact hR
    · rw [decN (show ¬ ((gcdL (xs.take (i + 1)) : Nat) : Int) = 1 by omega)]
      walk_at "gs"
      exact h1
  · obtain ⟨s2, rfl, hn⟩ := hI
    rw [List.take_length] at hn ⊢
    walk_at "gs"
    by_cases h1 : gcdL xs = 0
    · rw [decB (show ((gcdL xs : Nat) : Int) = 0 by omega)]
      walk_at "gs"
      have e2 : shortF xs = xs := by unfold shortF; rw [if_pos (by omega)]
      rw [e2] at hR
      exact hR
    · rw [decN (show ¬ ((gcdL xs : Nat) : Int) = 0 by omega)]
      walk_at "gs"
      refine ⟨by rw [List.length_map]; exact h0, ?_⟩
      refine wd_map (as := xs) (g := Dt.int) (f := fun x => .int (x / (gcdL xs : Int))) rfl (fun i x hx Q hQ => ?_) ?_
      · walk_at "gs"
        refine ⟨⟨by omega, ?_⟩, hQ⟩
        exact (wide_div (i := x) (j := (gcdL xs : Int)) (b := top) (by omega) (by rw [Int.natAbs_natCast]; exact gcdL_lt hb) (by decide) (by decide)).2
      · have e2 : shortF xs = xs.map fun x => x / (gcdL xs : Int) := by unfold shortF; rw [if_neg (by omega)]
        rw [e2] at hR
        walk_at "gs"
        show R (.lst _)
        have e3 : (xs.map fun x => Dt.int (x / (gcdL xs : Int))) = (xs.map fun x => x / (gcdL xs : Int)).map Dt.int := by rw [List.map_map] <;> rfl
        rw [e3]
        exact hR

def sp__cleared : DSp := fun ds P => ∃ (l : Ln) (bs : BasL) (m : Nat), ds = [lnD l, .lst (bs.map bsD)] ∧ l.2.length = m ∧ (∀ p ∈ bs, p.1 < m ∧ p.2.2.length = m) ∧ m ≤ 100000 ∧ ClrOk l.2 (bsR bs) ∧ P (lnD (clrL l bs))
theorem ok__cleared (Z : Fc K mg) (G__shortened : FnOk P w K mg base CX0 1 Z.a__shortened Z.fd__shortened P__shortened (spD b 1 sp__shortened)) : FnOk P w K mg base CX0 2 Z.a__cleared Z.fd__cleared P__cleared (spD b 2 sp__cleared) := by
  refine fn_D Z.F__cleared sc__cleared fun X outer cdv A s H E hX hr => ?_
  subst hX
  have nd := sc__cleared.nd
  refine ⟨_, (ss_cons (s_for rfl (i_list (xv 1)) (g_tup' (m := 2) rfl (gs_cons (g_name (i := 2) nd rfl (by first | exact .inl rfl | exact .inr rfl)) (gs_cons (g_name (i := 3) nd rfl (by first | exact .inl rfl | exact .inr rfl)) gs_nil))) (ss_cons (s_set (i := 4) nd rfl (.inr rfl) (x_ix (xv 0) (xv 2)))
      (ss_cons (s_set (i := 5) nd rfl (.inr rfl) (x_ix (xv 3) (xv 2)))
      (ss_one (s_if (t_ne hr.units (xv 4) x_int) (ss_one (s_set (i := 0) nd rfl (.inl rfl) (x_call (CX := CX0) (G__shortened) (hr.mono (by decide)) (by rfl) Z.g__shortened Z.F__shortened.kp Z.b__shortened (a_cons (x_l (l_lc rfl nd (vs := [6, 7]) (i_zip2 (by rfl) Z.z_zip (a_cons (xv 0) (a_cons (xv 3) a_nil))) (blkOk_by (own := [("mine", 6), ("theirs", 7)]) (N := N__cleared) (sc := (defScope s__cleared)) (by decide +kernel)) (fun _ => (g_tup' (m := 2) rfl (gs_cons (g_name (i := 6) nd rfl (by first | exact .inl rfl | exact .inr rfl)) (gs_cons (g_name (i := 7) nd rfl (by first | exact .inl rfl | exact .inr rfl)) gs_nil)))) (fun _ => ts_nil) (fun _ => (x_sub (x_mulW (xv 5) (xv 6)) (x_mulW (xv 4) (xv 7)))) (by simp))) a_nil)))) ss_nil)))))
      (ss_one (s_ret (xv 0)))), fun ds R hl hT => ?_⟩
  obtain ⟨l, bs, m, rfl, hl, hb, h0, hok, hR⟩ := hT
  rw [show startD N__cleared [lnD l, .lst (bs.map bsD)] = [.val (lnD l), .val (.lst (bs.map bsD)), .un, .un, .un, .un, .un, .un] from rfl]
  walk_at "gs"
  refine for_of (as := bs) (g := bsD) (Iv := fun i γ => ∃ s2 s3 s4 s5 s6 s7 : Sl, γ = [.val (lnD (clrL l (bs.take i))), .val (.lst (bs.map bsD)), s2, s3, s4, s5, s6, s7]) rfl ?_ (fun i p γ' hx hI => ?_) (fun γ' hI => ?_)
  · exact ⟨_, _, _, _, _, _, rfl⟩
  · obtain ⟨s2, s3, s4, s5, s6, s7, rfl⟩ := hI
    obtain ⟨c, o⟩ := p
    obtain ⟨hc, ho⟩ := hb (c, o) (List.mem_of_getElem? hx)
    obtain ⟨b1, b2, b3⟩ := ClrOk_at hok hx
    have e1 := clrL_step l hx
    have hl1 : (clrL l (bs.take i)).2.length = m := clrL_len hl fun p hp => (hb p (List.mem_of_mem_take hp)).2
    rw [e1]
    generalize clrL l (bs.take i) = k at *
    obtain ⟨t, xs⟩ := k
    obtain ⟨u, ys⟩ := o
    dsimp only at ho hl1 b1 b2 b3
    have hln : xs.length = ys.length := by rw [hl1, ho]
    have fin : ∀ (P : Dt → Prop), (xs.getD c 0 ≠ 0) → P (lnD (nextL (t, xs) c (u, ys))) → ∀ zs, zs = ((xs.zip ys).map fun p => Dt.int (ys.getD c 0 * p.1 - xs.getD c 0 * p.2)) → sp__shortened [.lst zs] P := fun P nz hP zs hz => by
      rw [zip_int (h := fun a b => ys.getD c 0 * a - xs.getD c 0 * b)] at hz
      refine ⟨comb (ys.getD c 0) (xs.getD c 0) xs ys, by rw [hz] <;> rfl, by rw [comb_len hln]; omega, b3 nz, ?_⟩
      unfold nextL at hP
      rw [if_neg nz] at hP
      exact hP
    cases t <;> cases u
    all_goals
      walk_at "gs"
      refine ⟨.int (xs.getD c 0), getD_at (by omega), ?_⟩
      walk_at "gs"
      refine ⟨.int (ys.getD c 0), getD_at (by omega), ?_⟩
      walk_at "gs"
      by_cases q : xs.getD c 0 = 0
      · rw [decB q]
        walk_at "gs"
        unfold nextL
        rw [if_pos q]
        exact ⟨_, _, _, _, _, _, rfl⟩
      · rw [decN q]
        walk_at "gs"
        refine ⟨by rw [List.length_map, List.length_map]; exact hln, ?_⟩
        walk_at "gs"
        refine ⟨by rw [zipD_len, List.length_map, List.length_map]; omega, ?_⟩
        refine wd_map (as := xs.zip ys) (g := fun p => .tup [.int p.1, .int p.2]) (f := fun p => .int (ys.getD c 0 * p.1 - xs.getD c 0 * p.2)) zipD_map (fun j p hp Q hQ => ?_) ?_
        · walk_at "gs"
          have hp2 := List.of_mem_zip (List.mem_of_getElem? hp)
          refine ⟨mulW (b2.getD c) (b1 _ hp2.1), ?_⟩
          walk_at "gs"
          exact ⟨mulW (b1.getD c) (b2 _ hp2.2), hQ⟩
        · walk_at "gs"
          refine fin _ q ?_ _ rfl
          exact ⟨_, _, _, _, _, _, rfl⟩
  · obtain ⟨s2, s3, s4, s5, s6, s7, rfl⟩ := hI
    rw [List.take_length]
    walk_at "gs"
    exact hR

def sp__leading : DSp := fun ds P => ∃ (l : Ln) (w : Nat), ds = [lnD l, .int (w : Nat)] ∧ w ≤ l.2.length ∧ w ≤ 100000 ∧ P (optD (lead w l.2))
theorem ok__leading (Z : Fc K mg)  : FnOk P w K mg base CX0 1 Z.a__leading Z.fd__leading P__leading (spD b 2 sp__leading) := by
  refine fn_D Z.F__leading sc__leading fun X outer cdv A s H E hX hr => ?_
  subst hX
  have nd := sc__leading.nd
  refine ⟨_, (ss_cons (s_for rfl (i_rv (by rfl) Z.z_reversed (by rfl) Z.z_range (xv 1)) (g_name (i := 2) nd rfl (by first | exact .inl rfl | exact .inr rfl)) (ss_one (s_if (t_ne hr.units (x_ix (xv 0) (xv 2)) x_int) (ss_one (s_ret (xv 2))) ss_nil)))
      (ss_one (s_ret x_non))), fun ds R hl hT => ?_⟩
  obtain ⟨⟨t, xs⟩, w, rfl, h0, h1, hR⟩ := hT
  cases t
  · rw [show startD N__leading [lnD (false, xs), .int (w : Nat)] = [.val (lisD xs), .val (.int (w : Nat)), .un] from rfl]
    walk_at "gs"
    refine for_of (as := List.range w) (g := fun i => Dt.int ((w : Int) - 1 - (i : Nat))) (Iv := fun i γ => ∃ s2 : Sl, γ = [.val (lisD xs), .val (.int (w : Nat)), s2] ∧ ∀ j, w - i ≤ j → j < w → xs.getD j 0 = 0) (by rw [Int.toNat_natCast] <;> rfl) ?_ (fun i x γ' hx hI => ?_) (fun γ' hI => ?_)
    · exact ⟨_, rfl, fun j a c => by omega⟩
    · obtain ⟨s2, rfl, hz⟩ := hI
      have hi : i < w := by have := (List.getElem?_eq_some_iff.mp hx).1; simpa using this
      rw [List.getElem?_range hi] at hx
      cases hx
      walk_at "gs"
      have ej : (w : Int) - 1 - (i : Nat) = ((w - 1 - i : Nat) : Int) := by omega
      have hw2 : w ≤ xs.length := h0
      refine ⟨.int (xs.getD (w - 1 - i) 0), ?_, ?_⟩
      · rw [ej]
        exact getD_at (by omega)
      walk_at "gs"
      by_cases q : xs.getD (w - 1 - i) 0 = 0
      · rw [decB q]
        walk_at "gs"
        refine fun j a c => ?_
        by_cases e : j = w - 1 - i
        · rw [e]; exact q
        · exact hz j (by omega) c
      · rw [decN q]
        walk_at "gs"
        have := lead_eq (w := w) (j := w - 1 - i) (xs := xs) (by omega) q fun k a c => hz k (by omega) c
        rw [this] at hR
        rw [ej]
        exact hR
    · obtain ⟨s2, rfl, hz⟩ := hI
      walk_at "gs"
      rw [List.length_range] at hz
      rw [lead_no fun k hk => hz k (by omega) hk] at hR
      exact hR
  · rw [show startD N__leading [lnD (true, xs), .int (w : Nat)] = [.val (rowD xs), .val (.int (w : Nat)), .un] from rfl]
    walk_at "gs"
    refine for_of (as := List.range w) (g := fun i => Dt.int ((w : Int) - 1 - (i : Nat))) (Iv := fun i γ => ∃ s2 : Sl, γ = [.val (rowD xs), .val (.int (w : Nat)), s2] ∧ ∀ j, w - i ≤ j → j < w → xs.getD j 0 = 0) (by rw [Int.toNat_natCast] <;> rfl) ?_ (fun i x γ' hx hI => ?_) (fun γ' hI => ?_)
    · exact ⟨_, rfl, fun j a c => by omega⟩
    · obtain ⟨s2, rfl, hz⟩ := hI
      have hi : i < w := by have := (List.getElem?_eq_some_iff.mp hx).1; simpa using this
      rw [List.getElem?_range hi] at hx
      cases hx
      walk_at "gs"
      have ej : (w : Int) - 1 - (i : Nat) = ((w - 1 - i : Nat) : Int) := by omega
      have hw2 : w ≤ xs.length := h0
      refine ⟨.int (xs.getD (w - 1 - i) 0), ?_, ?_⟩
      · rw [ej]
        exact getD_at (by omega)
      walk_at "gs"
      by_cases q : xs.getD (w - 1 - i) 0 = 0
      · rw [decB q]
        walk_at "gs"
        refine fun j a c => ?_
        by_cases e : j = w - 1 - i
        · rw [e]; exact q
        · exact hz j (by omega) c
      · rw [decN q]
        walk_at "gs"
        have := lead_eq (w := w) (j := w - 1 - i) (xs := xs) (by omega) q fun k a c => hz k (by omega) c
        rw [this] at hR
        rw [ej]
        exact hR
    · obtain ⟨s2, rfl, hz⟩ := hI
      walk_at "gs"
      rw [List.length_range] at hz
      rw [lead_no fun k hk => hz k (by omega) hk] at hR
      exact hR

def sp__parted : DSp := fun ds P => ∃ (ls : List Ln) (s0 : Dt) (m w : Nat), ds = [s0, .int (w : Nat)] ∧ (s0 = .lst (ls.map lnD) ∨ s0 = .tup (ls.map lnD)) ∧ (∀ l ∈ ls, l.2.length = m) ∧ 0 < m ∧ w ≤ m ∧ (ls.length ≤ 90000 ∧ m ≤ 100000) ∧ PartOk w (ls.map (·.2)) [] ∧ P (.tup [.lst ((partL w ls).1.map bsD), .lst ((partL w ls).2.map lnD)])
theorem ok__parted (Z : Fc K mg) (G__cleared : FnOk P w K mg base CX0 2 Z.a__cleared Z.fd__cleared P__cleared (spD b 2 sp__cleared)) (G__leading : FnOk P w K mg base CX0 1 Z.a__leading Z.fd__leading P__leading (spD b 2 sp__leading)) : FnOk P w K mg base CX0 3 Z.a__parted Z.fd__parted P__parted (spD b 2 sp__parted) := by
  refine fn_D Z.F__parted sc__parted fun X outer cdv A s H E hX hr => ?_
  subst hX
  have nd := sc__parted.nd
  refine ⟨_, (ss_cons (s_setL (i := 2) nd rfl (.inl rfl) (l_lst a_nil))
      (ss_cons (s_setL (i := 3) nd rfl (.inl rfl) (l_lst a_nil))
      (ss_cons (s_for rfl (i_seq 0) (g_name (i := 4) nd rfl (by first | exact .inl rfl | exact .inr rfl)) (ss_cons (s_set (i := 5) nd rfl (.inl rfl) (x_lendX 2 (x_call (CX := CX0) (G__cleared) (hr.mono (by decide)) (by rfl) Z.g__cleared Z.F__cleared.kp Z.b__cleared (a_cons (xv 4) (a_cons (xv 2) a_nil)))))
      (ss_cons (s_set (i := 6) nd rfl (.inl rfl) (x_call (CX := CX0) (G__leading) (hr.mono (by decide)) (by rfl) Z.g__leading Z.F__leading.kp Z.b__leading (a_cons (xv 5) (a_cons (xv 1) a_nil))))
      (ss_one (s_if (t_isN (xv 6)) (ss_one (s_app 3 (xv 5))) (ss_one (s_app 2 (x_tup (a_cons (xv 6) (a_cons (xv 5) a_nil))))))))))
      (ss_one (s_frz 3 (s_frz 2 (s_ret (x_tup (a_cons (xv 2) (a_cons (xv 3) a_nil)))))))))), fun ds R hl hT => ?_⟩
  obtain ⟨ls, s0, m, w, rfl, hs0, hl, hm, hw, h0, hok, hR⟩ := hT
  have key : ∀ (γ : Gm) (N : Gm → Prop) (lb lr : Addr), γ = [.val s0, .val (.int (w : Nat)), .own lb [], .own lr [], .un, .un, .un] → (∀ s4 s5 s6, N [.val s0, .val (.int (w : Nat)), .own lb ((partL w ls).1.map bsD), .own lr ((partL w ls).2.map lnD), s4, s5, s6]) →
      Word (∃ Iv : Nat → Gm → Prop, Iv 0 γ ∧ (∀ i d γ', (ls.map lnD)[i]? = some d → Iv i γ' → gN 4 d γ' fun γ2 => (sSeq (sSet 5 (dLendX 2 (dCall 2 sp__cleared (aCons (dVar 4) (aCons (dVar 2) aNil))))) (sSeq (sSet 6 (dCall 2 sp__leading (aCons (dVar 5) (aCons (dVar 1) aNil)))) (sIf (tB1 (dIsN (dVar 6))) (sApp 3 (dVar 5)) (sApp 2 (dTup (aCons (dVar 6) (aCons (dVar 5) aNil))))))) { nx := Iv (i + 1), rt := fun _ => R, bk := N, ct := Iv (i + 1) } γ2) ∧ ∀ γ', Iv (ls.map lnD).length γ' → N γ') := fun γ N lb lr hγ hN => by
    refine for_of (as := ls) (g := lnD) (Iv := fun i γ => ∃ s4 s5 s6 : Sl, γ = [.val s0, .val (.int (w : Nat)), .own lb ((partL w (ls.take i)).1.map bsD), .own lr ((partL w (ls.take i)).2.map lnD), s4, s5, s6]) rfl ?_ (fun i l γ' hx hI => ?_) (fun γ' hI => ?_)
    · subst hγ
      exact ⟨_, _, _, rfl⟩
    · obtain ⟨s4, s5, s6, rfl⟩ := hI
      have hlen := hl l (List.mem_of_getElem? hx)
      have hil := (List.getElem?_eq_some_iff.mp hx).1
      have pi := part_I (m := m) (w := w) ((ls.take i).map (·.2)) fun x hx => by
        obtain ⟨y, hy, rfl⟩ := List.mem_map.mp hx
        exact hl y (List.mem_of_mem_take hy)
      have co := PartOk_at (rs := []) hok hx
      have st := partL_step (w := w) hx
      rw [← partL_eq] at pi co
      have many := pi.many
      rw [← partL_eq2] at many
      have hbs : ∀ p ∈ (partL w (ls.take i)).1, p.1 < m ∧ p.2.2.length = m := fun p hp => by
        obtain ⟨f1, f2, _⟩ := pi.ech.facts.2 (p.1, p.2.2) (List.mem_map.mpr ⟨p, hp, rfl⟩)
        exact ⟨Nat.lt_of_lt_of_le f2 hw, f1⟩
      have hcl : (clrL l (partL w (ls.take i)).1).2.length = m := clrL_len hlen fun p hp => (hbs p hp).2
      rw [List.length_map, List.length_map, List.length_take] at many
      have mb : (bsR (partL w (ls.take i)).1).length = (partL w (ls.take i)).1.length := by unfold bsR; rw [List.length_map]
      have hse : sepD ((partL w (ls.take i)).1.map bsD) (lnD (clrL l (partL w (ls.take i)).1)) := sep_line (by rw [hcl]; exact hm)
      rw [st]
      generalize hp : partL w (ls.take i) = p at *
      obtain ⟨bs, rs⟩ := p
      dsimp only at *
      walk_at "gs"
      refine ⟨l, bs, m, rfl, hlen, hbs, by omega, co, hse, ?_⟩
      walk_at "gs"
      refine ⟨clrL l bs, w, rfl, by omega, by omega, ?_⟩
      cases q : lead w (clrL l bs).2 with
      | none =>
        rw [stepL_none (st := (bs, rs)) q]
        walk_at "gs"
        refine ⟨by rw [List.length_map]; omega, ?_⟩
        rw [List.map_append]
        exact ⟨_, _, _, rfl⟩
      | some c =>
        rw [stepL_some (st := (bs, rs)) q]
        walk_at "gs"
        refine ⟨by rw [List.length_map]; omega, ?_⟩
        rw [List.map_append]
        exact ⟨_, _, _, rfl⟩
    · obtain ⟨s4, s5, s6, rfl⟩ := hI
      rw [List.take_length]
      exact hN _ _ _
  rcases hs0 with rfl | rfl
  · rw [show startD N__parted [Dt.lst (ls.map lnD), .int (w : Nat)] = [.val (.lst (ls.map lnD)), .val (.int (w : Nat)), .un, .un, .un, .un, .un] from rfl]
    walk_at "gs"
    intro lb
    walk_at "gs"
    intro lr
    walk_at "gs"
    refine key _ _ _ _ rfl fun s4 s5 s6 => ?_
    walk_at "gs"
    exact hR
  · rw [show startD N__parted [Dt.tup (ls.map lnD), .int (w : Nat)] = [.val (.tup (ls.map lnD)), .val (.int (w : Nat)), .un, .un, .un, .un, .un] from rfl]
    walk_at "gs"
    intro lb
    walk_at "gs"
    intro lr
    walk_at "gs"
    refine key _ _ _ _ rfl fun s4 s5 s6 => ?_
    walk_at "gs"
    exact hR

@[reducible] def sp_identity : DSp := fun ds P => match ds with
  | [.int n] => 0 ≤ n ∧ n ≤ 1000 ∧ P (.tup ((List.range n.toNat).map fun i => rowD (unitR n.toNat i)))
  | _ => False
theorem ok_identity (Z : Fc K mg)  : FnOk P w K mg base CX0 1 Z.a_identity Z.fd_identity P_identity (spD b 1 sp_identity) := by
  refine fn_D Z.F_identity sc_identity fun X outer cdv A s H E hX hr => ?_
  subst hX
  have nd := sc_identity.nd
  refine ⟨_, (ss_one (s_ret (x_tupleOf (by rfl) Z.z_tuple (a_cons (x_l (l_lc rfl nd (vs := [1]) (i_rng1 (by rfl) Z.z_range (a_cons (xv 0) a_nil)) (blkOk_by (own := [("index", 1)]) (N := N_identity) (sc := (defScope s_identity)) (by decide +kernel)) (fun _ => (g_name (i := 1) nd rfl (by first | exact .inl rfl | exact .inr rfl))) (fun _ => ts_nil) (fun _ => (x_tupleOf (by rfl) Z.z_tuple (a_cons (x_l (l_lc rfl nd (vs := [2]) (i_rng1 (by rfl) Z.z_range (a_cons (xv 0) a_nil)) (blkOk_by (own := [("at", 2)]) (N := N_identity) (sc := (relS (cSc [(".0", .local), ("index", .cell), ("tuple", .globalImplicit), ("range", .globalImplicit), ("width", .free)]) (defScope s_identity))) (by decide +kernel)) (fun _ => (g_name (i := 2) nd rfl (by first | exact .inl rfl | exact .inr rfl))) (fun _ => ts_nil) (fun _ => (x_if (t_eq hr.units (xv 2) (xv 1)) x_int x_int)) (by simp))) a_nil))) (by simp))) a_nil)))), fun ds R hl hT => ?_⟩
  match ds, hT with
  | [.int n], ⟨h0, h1, hR⟩ =>
    rw [show startD N_identity [Dt.int n] = [.val (.int n), .un, .un] from rfl]
    walk_at "gs"
    refine ⟨by rw [rngD_len]; omega, fun i acc => acc = (List.range i).map fun k => rowD (unitR n.toNat k), rfl, fun i d acc hi _ e => ?_, fun acc _ e => ?_⟩
    · obtain ⟨hi2, rfl⟩ := rngD_at hi
      walk_at "gs"
      refine ⟨by rw [rngD_len]; omega, fun j a2 => a2 = (List.range j).map fun k => Dt.int (if k = i then 1 else 0), rfl, fun j d2 a2 hj _ e2 => ?_, fun a2 _ e2 => ?_⟩
      · obtain ⟨hj2, rfl⟩ := rngD_at hj
        walk_at "gs"
        by_cases h : j = i
        · rw [show decide ((0 : Int) + (j : Int) = 0 + (i : Int)) = true from decide_eq_true (by omega)]
          walk_at "gs"
          rw [List.range_succ, List.map_append, e2, show [j].map (fun k => Dt.int (if k = i then 1 else 0)) = [Dt.int 1] from by simp [h]]
        · rw [show decide ((0 : Int) + (j : Int) = 0 + (i : Int)) = false from decide_eq_false (by omega)]
          walk_at "gs"
          rw [List.range_succ, List.map_append, e2, show [j].map (fun k => Dt.int (if k = i then 1 else 0)) = [Dt.int 0] from by simp [h]]
      · walk_at "gs"
        rw [e, e2, rngD_len, List.range_succ, List.map_append]
        show _ ++ [Dt.tup _] = _ ++ [Dt.tup ((unitR n.toNat i).map Dt.int)]
        rw [unit_rows]
    · walk_at "gs"
      rw [e, rngD_len]
      exact hR

def sp__marked : DSp := fun ds P => ∃ (rs : List IRow) (s0 : Dt), ds = [s0] ∧ (s0 = .lst (rs.map rowD) ∨ s0 = .tup (rs.map rowD)) ∧ rs.length ≤ 1000 ∧ (∀ r ∈ rs, r.length ≤ 1000) ∧ P (.lst ((markR rs).map rowD))
theorem ok__marked (Z : Fc K mg) (G_identity : FnOk P w K mg base CX0 1 Z.a_identity Z.fd_identity P_identity (spD b 1 sp_identity)) : FnOk P w K mg base CX0 2 Z.a__marked Z.fd__marked P__marked (spD b 1 sp__marked) := by
  refine fn_D Z.F__marked sc__marked fun X outer cdv A s H E hX hr => ?_
  subst hX
  have nd := sc__marked.nd
  refine ⟨_, (ss_one (s_ret (x_l (l_lc rfl nd (vs := [1, 2]) (i_zip2 (by rfl) Z.z_zip (a_cons (xv 0) (a_cons (x_call (CX := CX0) (G_identity) (hr.mono (by decide)) (by rfl) Z.g_identity Z.F_identity.kp Z.b_identity (a_cons (x_len (by rfl) Z.z_len (a_cons (xv 0) a_nil)) a_nil)) a_nil))) (blkOk_by (own := [("row", 1), ("factors", 2)]) (N := N__marked) (sc := (defScope s__marked)) (by decide +kernel)) (fun _ => (g_tup' (m := 2) rfl (gs_cons (g_name (i := 1) nd rfl (by first | exact .inl rfl | exact .inr rfl)) (gs_cons (g_name (i := 2) nd rfl (by first | exact .inl rfl | exact .inr rfl)) gs_nil)))) (fun _ => ts_nil) (fun _ => (x_tup (a_star (xv 1) (a_star (xv 2) a_nil)))) (by simp))))), fun ds R hl hT => ?_⟩
  obtain ⟨rs, s0, rfl, hs0, h0, h1, hR⟩ := hT
  rcases hs0 with rfl | rfl
  · rw [show startD N__marked [Dt.lst (rs.map rowD)] = [.val (.lst (rs.map rowD)), .un, .un] from rfl]
    walk_at "go"
    refine ⟨by rw [List.length_map]; omega, ?_⟩
    walk_at "go"
    simp only [List.length_map, Int.toNat_natCast]
    walk_at "go"
    refine ⟨by rw [List.length_range], ?_⟩
    rw [zip_mark]
    refine ⟨by rw [List.length_map, List.length_zipIdx]; omega, ?_⟩
    refine wd_map (as := rs.zipIdx) (g := fun p => .tup [rowD p.1, rowD (unitR rs.length p.2)]) (f := fun p => rowD (p.1 ++ unitR rs.length p.2)) rfl (fun i p hp Q hQ => ?_) ?_
    · have hm := List.mem_of_getElem? hp
      obtain ⟨r, k⟩ := p
      rw [List.mk_mem_zipIdx_iff_getElem?] at hm
      have hl := h1 r (List.mem_of_getElem? hm)
      walk_at "go"
      rw [List.append_nil]
      refine ⟨by rw [List.length_append, List.length_map, List.length_map, unitR_len]; omega, ?_⟩
      have e : r.map Dt.int ++ (unitR rs.length k).map Dt.int = (r ++ unitR rs.length k).map Dt.int := by rw [List.map_append]
      rw [e]
      exact hQ
    · have e : (rs.zipIdx.map fun p => rowD (p.1 ++ unitR rs.length p.2)) = (markR rs).map rowD := by unfold markR; rw [List.map_map] <;> rfl
      rw [e]
      exact hR
  · rw [show startD N__marked [Dt.tup (rs.map rowD)] = [.val (.tup (rs.map rowD)), .un, .un] from rfl]
    walk_at "go"
    refine ⟨by rw [List.length_map]; omega, ?_⟩
    walk_at "go"
    simp only [List.length_map, Int.toNat_natCast]
    walk_at "go"
    refine ⟨by rw [List.length_range], ?_⟩
    rw [zip_mark]
    refine ⟨by rw [List.length_map, List.length_zipIdx]; omega, ?_⟩
    refine wd_map (as := rs.zipIdx) (g := fun p => .tup [rowD p.1, rowD (unitR rs.length p.2)]) (f := fun p => rowD (p.1 ++ unitR rs.length p.2)) rfl (fun i p hp Q hQ => ?_) ?_
    · have hm := List.mem_of_getElem? hp
      obtain ⟨r, k⟩ := p
      rw [List.mk_mem_zipIdx_iff_getElem?] at hm
      have hl := h1 r (List.mem_of_getElem? hm)
      walk_at "go"
      rw [List.append_nil]
      refine ⟨by rw [List.length_append, List.length_map, List.length_map, unitR_len]; omega, ?_⟩
      have e : r.map Dt.int ++ (unitR rs.length k).map Dt.int = (r ++ unitR rs.length k).map Dt.int := by rw [List.map_append]
      rw [e]
      exact hQ
    · have e : (rs.zipIdx.map fun p => rowD (p.1 ++ unitR rs.length p.2)) = (markR rs).map rowD := by unfold markR; rw [List.map_map] <;> rfl
      rw [e]
      exact hR

def sp_kernel : DSpL := fun ds P => ∃ (rs : List IRow) (s0 : Dt) (N w : Nat), ds = [s0] ∧ (s0 = .lst (rs.map rowD) ∨ s0 = .tup (rs.map rowD)) ∧ (∀ r ∈ rs, r.length = w ∧ Bd N r) ∧ 1 ≤ N ∧ rs.length ≤ 100 ∧ w ≤ 100 ∧ gr N w ≤ top ∧ P ((kerR w rs).map rowD)
theorem okF_kernel (Z : Fc K mg) (G__marked : FnOk P w K mg base CX0 2 Z.a__marked Z.fd__marked P__marked (spD b 1 sp__marked)) (G__parted : FnOk P w K mg base CX0 3 Z.a__parted Z.fd__parted P__parted (spD b 2 sp__parted)) (G__width_of : FnOk P w K mg base CX0 1 Z.a__width_of Z.fd__width_of P__width_of (spD b 1 sp__width_of)) : FnOk P w K mg base CX0 4 Z.a_kernel Z.fd_kernel P_kernel (spL b 1 sp_kernel) := by
  refine fn_DL Z.F_kernel sc_kernel fun X outer cdv A s H E hX hr => ?_
  subst hX
  have nd := sc_kernel.nd
  refine ⟨_, (ss_consL (s_set (i := 1) nd rfl (.inr rfl) (x_call (CX := CX0) (G__width_of) (hr.mono (by decide)) (by rfl) Z.g__width_of Z.F__width_of.kp Z.b__width_of (a_cons (xv 0) a_nil)))
      (ss_consL (s_asg (x_call (CX := CX0) (G__parted) (hr.mono (by decide)) (by rfl) Z.g__parted Z.F__parted.kp Z.b__parted (a_cons (x_call (CX := CX0) (G__marked) (hr.mono (by decide)) (by rfl) Z.g__marked Z.F__marked.kp Z.b__marked (a_cons (xv 0) a_nil)) (a_cons (xv 1) a_nil))) (g_tup' (m := 2) rfl (gs_cons (g_name (i := 2) nd rfl (by first | exact .inl rfl | exact .inr rfl)) (gs_cons (g_name (i := 3) nd rfl (by first | exact .inl rfl | exact .inr rfl)) gs_nil))))
      (ss_retL (l_lc rfl nd (vs := [4]) (i_list (xv 3)) (blkOk_by (own := [("rest", 4)]) (N := N_kernel) (sc := (defScope s_kernel)) (by decide +kernel)) (fun _ => (g_name (i := 4) nd rfl (by first | exact .inl rfl | exact .inr rfl))) (fun _ => ts_nil) (fun _ => (x_tupleOf (by rfl) Z.z_tuple (a_cons (x_slN 4 (o_some (xv 1)) o_none) a_nil))) (by simp))))), fun ds R hl hT => ?_⟩
  obtain ⟨rs, s0, N, w, rfl, hs0, hr, hN, h0, h1, hg, hR⟩ := hT
  have hrl : ∀ r ∈ rs, r.length = w := fun r h => (hr r h).1
  obtain ⟨v, hv, hvw⟩ : ∃ v : Nat, widF (rs.map fun r => ((true, r) : Ln)) = v ∧ (rs = [] ∨ v = w) := by
    refine ⟨_, rfl, ?_⟩
    rw [widF_rows hrl]
    by_cases e : rs = []
    · exact .inl e
    · rw [if_neg e]; exact .inr rfl
  have hvv : v ≤ w := by
    rw [← hv, widF_rows hrl]
    split
    · exact Nat.zero_le _
    · exact Nat.le_refl _
  have hk : kerR v rs = kerR w rs := by
    rcases hvw with rfl | rfl <;> rfl
  have hrv : ∀ r ∈ rs, r.length = v ∧ Bd N r := fun r h => by
    rcases hvw with rfl | rfl
    · cases h
    · exact hr r h
  have hgv : gr N v ≤ top := Nat.le_trans (gr_mono N hvv) hg
  have hM : ∀ l ∈ markR rs, l.length = v + rs.length ∧ Bd N l := fun l hl => by
    obtain ⟨i, hi⟩ := List.getElem?_of_mem hl
    rw [markR_at] at hi
    cases e : rs[i]? with
    | none => rw [e] at hi; cases hi
    | some r =>
      rw [e] at hi
      cases hi
      obtain ⟨a, c⟩ := hrv r (List.mem_of_getElem? e)
      refine ⟨by rw [List.length_append, unitR_len, a], c.app (bd_small hN fun x hx => ?_)⟩
      obtain ⟨k, _, rfl⟩ := List.mem_map.mp hx
      split
      · exact .inr rfl
      · exact .inl rfl
  have hok : PartOk v (markR rs) [] := part_ok .nil hM (fun j p hj => by cases hj) hgv
  have eL : (markR rs).map rowD = ((markR rs).map fun r => ((true, r) : Ln)).map lnD := by rw [List.map_map] <;> rfl
  have eS : ((markR rs).map fun r => ((true, r) : Ln)).map (·.2) = markR rs := by rw [List.map_map]; exact List.map_id _
  have eR : rs.map rowD = (rs.map fun r => ((true, r) : Ln)).map lnD := by rw [List.map_map] <;> rfl
  have hml : (markR rs).length = rs.length := markR_len rs
  have eZ := partL_eq2 v ((markR rs).map fun r => ((true, r) : Ln))
  rw [eS] at eZ
  have zlen : ((partL v ((markR rs).map fun r => ((true, r) : Ln))).2).length ≤ 1000 := by
    have h2 := congrArg List.length eZ
    rw [List.length_map] at h2
    have h3 := (part_I (m := v + rs.length) (w := v) (markR rs) fun l hl => (hM l hl).1).many
    omega
  have zl : ∀ l ∈ (partL v ((markR rs).map fun r => ((true, r) : Ln))).2, l.2.length = v + rs.length := fun l hl => by
    have hm : l.2 ∈ (part v (markR rs) [] []).2 := by rw [← eZ]; exact List.mem_map.mpr ⟨l, hl, rfl⟩
    exact ((part_I (m := v + rs.length) (w := v) (markR rs) fun l hl => (hM l hl).1).rest _ hm).1
  have hkz : kerR v rs = ((partL v ((markR rs).map fun r => ((true, r) : Ln))).2).map fun l => l.2.drop v := by
    unfold kerR
    rw [← eZ, List.map_map] <;> rfl
  obtain ⟨M, hM0, hMv, hM1, hML⟩ : ∃ M, 0 < M ∧ v ≤ M ∧ M ≤ 1000 ∧ ∀ l ∈ markR rs, l.length = M := by
    by_cases e : rs.length = 0
    · refine ⟨v + 1, by omega, by omega, by omega, fun l hl => ?_⟩
      rw [List.eq_nil_of_length_eq_zero e] at hl
      cases hl
    · exact ⟨v + rs.length, by omega, by omega, by omega, fun l hl => (hM l hl).1⟩
  rw [← hk, hkz] at hR
  rcases hs0 with rfl | rfl
  · rw [show startD N_kernel [Dt.lst (rs.map rowD)] = [.val (.lst (rs.map rowD)), .un, .un, .un, .un] from rfl]
    walk_at "go"
    refine ⟨rs.map fun r => (true, r), _, rfl, .inl (by rw [eR]), ?_⟩
    rw [hv]
    walk_at "go"
    refine ⟨rs, _, rfl, .inl rfl, by omega, fun r h => by have := (hr r h).1; omega, ?_⟩
    walk_at "go"
    rw [eL]
    refine ⟨(markR rs).map fun r => (true, r), _, M, v, rfl, .inl rfl, fun l hl => ?_, hM0, hMv, ⟨by rw [List.length_map, hml]; omega, by omega⟩, by rw [eS]; exact hok, ?_⟩
    · obtain ⟨r, hr2, rfl⟩ := List.mem_map.mp hl
      exact hML r hr2
    generalize partL v ((markR rs).map fun r => ((true, r) : Ln)) = B at *
    walk_at "go"
    refine ⟨by rw [List.length_map]; omega, ?_⟩
    refine wd_map (as := B.2) (g := lnD) (f := fun l => rowD (l.2.drop v)) rfl (fun i l hl Q hQ => ?_) ?_
    · have hll := zl l (List.mem_of_getElem? hl)
      obtain ⟨fl, xs⟩ := l
      have hll : xs.length = v + rs.length := hll
      have hcut : DL.cutD (xs.map Dt.int) (some ((v : Nat) : Int)) none = (xs.drop v).map Dt.int := by rw [cutD_suf (by rw [List.length_map]; omega), List.map_drop]
      cases fl
      · walk_at "go"
        rw [hcut]
        exact hQ
      · walk_at "go"
        rw [hcut]
        exact hQ
    walk_at "go"
    rw [List.map_map] at hR
    exact hR
  · rw [show startD N_kernel [Dt.tup (rs.map rowD)] = [.val (.tup (rs.map rowD)), .un, .un, .un, .un] from rfl]
    walk_at "go"
    refine ⟨rs.map fun r => (true, r), _, rfl, .inr (by rw [eR]), ?_⟩
    rw [hv]
    walk_at "go"
    refine ⟨rs, _, rfl, .inr rfl, by omega, fun r h => by have := (hr r h).1; omega, ?_⟩
    walk_at "go"
    rw [eL]
    refine ⟨(markR rs).map fun r => (true, r), _, M, v, rfl, .inl rfl, fun l hl => ?_, hM0, hMv, ⟨by rw [List.length_map, hml]; omega, by omega⟩, by rw [eS]; exact hok, ?_⟩
    · obtain ⟨r, hr2, rfl⟩ := List.mem_map.mp hl
      exact hML r hr2
    generalize partL v ((markR rs).map fun r => ((true, r) : Ln)) = B at *
    walk_at "go"
    refine ⟨by rw [List.length_map]; omega, ?_⟩
    refine wd_map (as := B.2) (g := lnD) (f := fun l => rowD (l.2.drop v)) rfl (fun i l hl Q hQ => ?_) ?_
    · have hll := zl l (List.mem_of_getElem? hl)
      obtain ⟨fl, xs⟩ := l
      have hll : xs.length = v + rs.length := hll
      have hcut : DL.cutD (xs.map Dt.int) (some ((v : Nat) : Int)) none = (xs.drop v).map Dt.int := by rw [cutD_suf (by rw [List.length_map]; omega), List.map_drop]
      cases fl
      · walk_at "go"
        rw [hcut]
        exact hQ
      · walk_at "go"
        rw [hcut]
        exact hQ
    walk_at "go"
    rw [List.map_map] at hR
    exact hR

theorem ok_kernel (Z : Fc K mg) (G__marked : FnOk P w K mg base CX0 2 Z.a__marked Z.fd__marked P__marked (spD b 1 sp__marked)) (G__parted : FnOk P w K mg base CX0 3 Z.a__parted Z.fd__parted P__parted (spD b 2 sp__parted)) (G__width_of : FnOk P w K mg base CX0 1 Z.a__width_of Z.fd__width_of P__width_of (spD b 1 sp__width_of)) : FnOk P w K mg base CX0 4 Z.a_kernel Z.fd_kernel P_kernel (spD b 1 (lstS sp_kernel)) := fnL_D (okF_kernel Z G__marked G__parted G__width_of)
def sp_divisor : DSp := fun ds P => ∃ (xs : IRow) (s0 : Dt), ds = [s0] ∧ (s0 = .lst (xs.map Dt.int) ∨ s0 = .tup (xs.map Dt.int)) ∧ xs.length ≤ 100000 ∧ P (.int (gcdL xs : Nat))
theorem ok_divisor (Z : Fc K mg)  : FnOk P w K mg base CX0 1 Z.a_divisor Z.fd_divisor P_divisor (spD b 1 sp_divisor) := by
  refine fn_D Z.F_divisor sc_divisor fun X outer cdv A s H E hX hr => ?_
  subst hX
  have nd := sc_divisor.nd
  refine ⟨_, (ss_cons (s_set (i := 1) nd rfl (.inl rfl) x_int)
      (ss_cons (s_for rfl (i_seq 0) (g_name (i := 2) nd rfl (by first | exact .inl rfl | exact .inr rfl)) (ss_cons (s_set (i := 3) nd rfl (.inl rfl) (x_abs (by rfl) Z.z_abs (a_cons (xv 2) a_nil)))
      (ss_one (s_while (t_ne hr.units (xv 3) x_int) (ss_one (s_par (i := 1) (j := 3) rfl nd rfl rfl (by decide) rfl rfl (a_cons (xv 3) (a_cons (x_mod (x_intOf (by rfl) Z.z_int (a_cons (xv 1) a_nil)) (xv 3)) a_nil)) (by rfl)))))))
      (ss_one (s_ret (xv 1))))), fun ds R hl hT => ?_⟩
  obtain ⟨xs, s0, hds, hi, h0, hR⟩ := hT
  have key : ∀ (γ : Gm) (N : Gm → Prop), γ = [.val s0, .val (.int 0), .un, .un] → (∀ s2 s3, N [.val s0, .val (.int (gcdL xs : Nat)), s2, s3]) →
      Word (∃ Iv : Nat → Gm → Prop, Iv 0 γ ∧ (∀ i d γ', (xs.map Dt.int)[i]? = some d → Iv i γ' → gN 2 d γ' fun γ2 => (sSeq (sSet 3 (dBi bAbs (aCons (dVar 2) aNil))) (sWh (tB1 (d2 (vEq true) (dVar 3) (dC (Dt.int 0)))) (sPar 1 3 (aCons (dVar 3) (aCons (d2 (vIntC (fun x j => 0 < j) fun i j => i % j) (dBi bInt (aCons (dVar 1) aNil)) (dVar 3)) aNil))))) { nx := Iv (i + 1), rt := fun _ => R, bk := N, ct := Iv (i + 1) } γ2) ∧ ∀ γ', Iv (xs.map Dt.int).length γ' → N γ') := fun γ N hγ hN => by
    refine for_of (as := xs) (g := Dt.int) (Iv := fun i γ => ∃ s2 s3 : Sl, γ = [.val s0, .val (.int (gcdL (xs.take i) : Nat)), s2, s3]) rfl ?_ (fun i x γ' hx hI => ?_) (fun γ' hI => ?_)
    · subst hγ
      exact ⟨_, _, rfl⟩
    · obtain ⟨s2, s3, rfl⟩ := hI
      have e : gcdL (xs.take (i + 1)) = Nat.gcd (gcdL (xs.take i)) x.natAbs := by rw [List.take_add_one, hx]; exact gcdL_app _ _
      walk_at "gs"
      refine ⟨fun m γ2 => ∃ (f : Nat), γ2 = [.val s0, .val (.int (f : Nat)), .val (.int x), .val (.int (m : Nat))] ∧ Nat.gcd f m = gcdL (xs.take (i + 1)), ⟨x.natAbs, gcdL (xs.take i), ?_, e.symm⟩, fun m γ2 hW => ?_⟩
      · rw [show (if x < 0 then -x else x) = ((x.natAbs : Nat) : Int) by split <;> omega]
      · obtain ⟨f, rfl, hg⟩ := hW
        walk_at "gs"
        by_cases ho : m = 0
        · subst ho
          walk_at "gs"
          rw [Nat.gcd_zero_right] at hg
          rw [hg]
          exact ⟨_, _, rfl⟩
        · rw [decN (show ¬ ((m : Nat) : Int) = 0 by omega)]
          walk_at "gs"
          refine ⟨f % m, Nat.mod_lt _ (by omega), m, ?_, ?_⟩
          · rw [← Int.natCast_emod]
          · rw [← hg, Nat.gcd_comm f m, Nat.gcd_rec m f, Nat.gcd_comm]
    · obtain ⟨s2, s3, rfl⟩ := hI
      rw [List.take_length]
      exact hN _ _
  rcases hi with rfl | rfl
  all_goals
    subst hds
    first
    | rw [show startD N_divisor [Dt.lst (xs.map Dt.int)] = [.val (.lst (xs.map Dt.int)), .un, .un, .un] from rfl]
    | rw [show startD N_divisor [Dt.tup (xs.map Dt.int)] = [.val (.tup (xs.map Dt.int)), .un, .un, .un] from rfl]
    walk_at "gs"
    refine key _ _ rfl fun s2 s3 => ?_
    walk_at "gs"
    exact hR

def sp_lrank : DSp := fun ds P => ∃ (rs : List IRow) (m n : Nat), ds = [rowsD rs] ∧ (∀ r ∈ rs, r.length = m ∧ Bd n r) ∧ rs.length ≤ 10000 ∧ m ≤ 90000 ∧ gr n rs.length ≤ top ∧ P (.int (rkF m rs : Nat))
theorem ok_lrank (Z : Fc K mg) (G_divisor : FnOk P w K mg base CX0 1 Z.a_divisor Z.fd_divisor P_divisor (spD b 1 sp_divisor)) : FnOk P w K mg base CX0 2 Z.a_lrank Z.fd_lrank P_lrank (spD b 1 sp_lrank) := by
  refine fn_D Z.F_lrank sc_lrank fun X outer cdv A s H E hX hr => ?_
  subst hX
  have nd := sc_lrank.nd
  refine ⟨_, (ss_cons (s_parLc (i := 1) (j := 2) rfl nd rfl rfl (.inr rfl) (.inl rfl) (l_lc rfl nd (vs := [9]) (i_list (xv 0)) (blkOk_by (own := [("_law_row", 9)]) (N := N_lrank) (sc := (defScope s_lrank)) (by decide +kernel)) (fun _ => (g_name (i := 9) nd rfl (by first | exact .inl rfl | exact .inr rfl))) (fun _ => ts_nil) (fun _ => (x_l (l_listOf (by rfl) Z.z_list (a_cons (xv 9) a_nil)))) (by simp)) x_int)
      (ss_cons (s_for rfl (i_rng1 (by rfl) Z.z_range (a_cons (x_lendX 1 (x_if (t_lendX 1 (t_ne hr.units (xv 1) (x_l (l_lst a_nil)))) (x_len (by rfl) Z.z_len (a_cons (x_ix (xv 1) x_int) a_nil)) x_int)) a_nil)) (g_name (i := 3) nd rfl (by first | exact .inl rfl | exact .inr rfl)) (ss_cons (s_setLc (i := 4) rfl nd rfl rfl (sw_true rfl rfl rfl (by decide +kernel)) (vs := [6]) (i_rng2 (by rfl) Z.z_range (a_cons (xv 2) (a_cons (x_lendX 1 (x_len (by rfl) Z.z_len (a_cons (xv 1) a_nil))) a_nil))) (blkOk_by (own := [("_law_k", 6)]) (N := N_lrank) (sc := (defScope s_lrank)) (by decide +kernel)) (fun _ => (g_name (i := 6) nd rfl (by first | exact .inl rfl | exact .inr rfl))) (fun _ => (ts_one (t_lendX 1 (t_ne hr.units (x_ix (x_ix (xv 1) (xv 6)) (xv 3)) x_int)))) (fun _ => (xv 6)) (by simp))
      (ss_frz 4 (ss_one (s_if (t_ne hr.units (xv 4) (x_l (l_lst a_nil))) (ss_cons (s_pop 1 5 nd rfl (.inr rfl) (x_ix (xv 4) x_int))
      (ss_cons (s_ins 1 (a_cons (xv 2) (a_cons (xv 5) a_nil)))
      (ss_cons (s_set (i := 2) nd rfl (.inl rfl) (x_addI (xv 2) x_int))
      (ss_one (s_for rfl (i_rng2 (by rfl) Z.z_range (a_cons (xv 2) (a_cons (x_lendX 1 (x_len (by rfl) Z.z_len (a_cons (xv 1) a_nil))) a_nil))) (g_name (i := 6) nd rfl (by first | exact .inl rfl | exact .inr rfl)) (ss_cons (s_setLc (i := 7) rfl nd rfl rfl (sw_true rfl rfl rfl (by decide +kernel)) (vs := [10, 11]) (i_zip2 (by rfl) Z.z_zip (a_cons (x_lendX 1 (x_ix (xv 1) (xv 6))) (a_cons (xv 5) a_nil))) (blkOk_by (own := [("_law_one", 10), ("_law_two", 11)]) (N := N_lrank) (sc := (defScope s_lrank)) (by decide +kernel)) (fun _ => (g_tup' (m := 2) rfl (gs_cons (g_name (i := 10) nd rfl (by first | exact .inl rfl | exact .inr rfl)) (gs_cons (g_name (i := 11) nd rfl (by first | exact .inl rfl | exact .inr rfl)) gs_nil)))) (fun _ => ts_nil) (fun _ => (x_lendX 1 (x_sub (x_mulW (x_ix (xv 5) (xv 3)) (xv 10)) (x_mulW (x_ix (x_ix (xv 1) (xv 6)) (xv 3)) (xv 11))))) (by simp))
      (ss_frz 7 (ss_cons (s_set (i := 8) nd rfl (.inr rfl) (x_max2 rfl (by rfl) Z.z_max (a_cons x_int (a_cons (x_call (CX := CX0) (G_divisor) (hr.mono (by decide)) (by rfl) Z.g_divisor Z.F_divisor.kp Z.b_divisor (a_cons (xv 7) a_nil)) a_nil))))
      (ss_one (s_setIx 1 (x_l (l_lc rfl nd (vs := [12]) (i_list (xv 7)) (blkOk_by (own := [("_law_number", 12)]) (N := N_lrank) (sc := (defScope s_lrank)) (by decide +kernel)) (fun _ => (g_name (i := 12) nd rfl (by first | exact .inl rfl | exact .inr rfl))) (fun _ => ts_nil) (fun _ => (x_fdivW (xv 12) (xv 8))) (by simp))) (xv 6))))))))))) ss_nil)))))
      (ss_one (s_ret (xv 2))))), fun ds R hl hT => ?_⟩
  obtain ⟨rs, m, n, rfl, hrs, h0, h1, hg, hR⟩ := hT
  rw [show startD N_lrank [rowsD rs] = [.val (rowsD rs), .un, .un, .un, .un, .un, .un, .un, .un, .un, .un, .un, .un] from rfl]
  walk_at "gs"
  refine ⟨by rw [List.length_map]; omega, ?_⟩
  refine wd_map (as := rs) (g := rowD) (f := lisD) rfl (fun i r hr Q hQ => ?_) ?_
  · walk_at "gs"
    exact hQ
  walk_at "gs"
  intro l
  walk_at "gs"
  refine ⟨eqOk_of (n := 3) (lists_cmp rs) (lists_dep rs), by decide, ?_⟩
  have hcmp : (py (Dt.lst (rs.map lisD))).eqv (py (Dt.lst [])) = rs.isEmpty := by cases rs <;> rfl
  rw [hcmp]
  cases he : rs.isEmpty with
  | true =>
    have hnil : rs = [] := by
      cases rs with
      | nil => rfl
      | cons _ _ => cases he
    subst hnil
    walk_at "gs"
    refine for_of (as := List.range 0) (g := fun i => Dt.int (0 + (i : Nat))) (Iv := fun i γ => γ = [.val (rowsD []), .own l [], .val (.int 0), .un, .un, .un, .un, .un, .un, .un, .un, .un, .un]) rfl ?_ (fun i a γ' hi hI => ?_) (fun γ' hI => ?_)
    · exact rfl
    · simp at hi
    · subst hI
      walk_at "gs"
      exact hR
  | false =>
    obtain ⟨r0, rt, hrt⟩ : ∃ r0 rt, rs = r0 :: rt := by
      cases rs with
      | nil => cases he
      | cons a c => exact ⟨a, c, rfl⟩
    have hr0 : r0.length = m := (hrs r0 (by rw [hrt]; exact List.mem_cons_self)).1
    walk_at "gs"
    refine ⟨lisD r0, atI_nat (j := 0) (by rw [hrt] <;> rfl), ?_⟩
    walk_at "gs"
    rw [show ((r0.map Dt.int).length : Int) = (m : Int) by rw [List.length_map, hr0]]
    walk_at "om"
    refine for_of (as := List.range m) (g := fun i => Dt.int (0 + (i : Nat))) (Iv := fun c γ => ∃ (ls : List IRow) (f : Nat) (ps : List Nat) (s3 s4 s5 s6 s7 s8 s9 s10 s11 s12 : Sl), γ = [.val (rowsD rs), .own l (ls.map lisD), .val (.int (f : Nat)), s3, s4, s5, s6, s7, s8, s9, s10, s11, s12] ∧ LR n m rs c ls f ps) (show rngD 0 (m : Int).toNat = _ by rw [Int.toNat_natCast] <;> rfl) ?_ (fun c a γ' hi hI => ?_) (fun γ' hI => ?_)
    · exact ⟨rs, 0, [], _, _, _, _, _, _, _, _, _, _, rfl, LR.start hrs⟩
    · obtain ⟨ls, f, ps, s3, s4, s5, s6, s7, s8, s9, s10, s11, s12, rfl, hL⟩ := hI
      have hcm : c < m := by have := (List.getElem?_eq_some_iff.mp hi).1; simpa using this
      rw [List.getElem?_range hcm] at hi
      cases hi
      have hlen := hL.len
      have hfl := hL.fl
      have hLm : (ls.map lisD).length = ls.length := List.length_map ..
      have rowAt : ∀ (k : Nat) (hk : k < ls.length), atI (ls.map lisD) ((k : Nat) : Int) = some (lisD ls[k]) := fun k hk => atI_nat (by rw [List.getElem?_map, List.getElem?_eq_getElem hk] <;> rfl)
      walk_at "gs"
      rw [hLm]
      walk_at "om"
      rw [show ((ls.length : Int) - (f : Nat)).toNat = ls.length - f by omega]
      refine ⟨by rw [rngD_len]; omega, ?_⟩
      refine wd_filter (as := List.range (ls.length - f)) (g := fun i => Dt.int ((f : Nat) + (i : Nat))) (f := fun i => Dt.int ((f + i : Nat))) (p := fun i => (ls.getD (f + i) []).getD c 0 != 0) rfl (fun i a hi Q Rr hQ hRr => ?_) ?_
      · have hil : i < ls.length - f := by have := (List.getElem?_eq_some_iff.mp hi).1; simpa using this
        rw [List.getElem?_range hil] at hi
        cases hi
        have eg : ls.getD (f + i) [] = ls[f + i] := by rw [List.getD_eq_getElem?_getD, List.getElem?_eq_getElem (show f + i < ls.length by omega)] <;> rfl
        rw [eg] at hQ hRr
        walk_at "gs"
        refine ⟨lisD ls[f + i], by rw [← Int.natCast_add]; exact rowAt (f + i) (by omega), ?_⟩
        walk_at "gs"
        have hwid := hL.wid _ (List.getElem_mem (show f + i < ls.length by omega))
        refine ⟨.int (ls[f + i].getD c 0), by rw [Int.zero_add]; exact getD_at (by omega), ?_⟩
        walk_at "gs"
        by_cases q : ls[f + i].getD c 0 = 0
        · rw [decB q]
          walk_at "gs"
          exact hRr (by rw [q] <;> rfl)
        · rw [decN q]
          walk_at "gs"
          rw [← Int.natCast_add]
          exact hQ (by simpa using q)
      walk_at "gs"
      intro lat
      walk_at "gs"
      generalize hat : (List.range (ls.length - f)).filter (fun i => (ls.getD (f + i) []).getD c 0 != 0) = at1
      refine ⟨eqOk_of (n := 2) (by simp [cmp_lst, cmp_int]) (dep_lst.mpr fun x hx => by obtain ⟨y, _, rfl⟩ := List.mem_map.mp hx; rw [dep_int] <;> decide), by decide, ?_⟩
      have hcmp2 : (py (Dt.lst (at1.map fun i => Dt.int ((f + i : Nat))))).eqv (py (Dt.lst [])) = at1.isEmpty := by cases at1 <;> rfl
      rw [hcmp2]
      cases hae : at1.isEmpty with
      | true =>
        walk_at "gs"
        refine ⟨_, _, _, _, _, _, _, _, _, _, _, _, _, rfl, hL.skip fun i x hfi hx => ?_⟩
        have hil := (List.getElem?_eq_some_iff.mp hx).1
        apply Classical.byContradiction
        intro q
        have hm : i - f ∈ at1 := by
          rw [← hat, List.mem_filter]
          refine ⟨by simp; omega, ?_⟩
          have e5 : ls.getD (f + (i - f)) [] = x := by rw [show f + (i - f) = i by omega, List.getD_eq_getElem?_getD (l := ls), hx] <;> rfl
          rw [e5]
          simpa using q
        cases at1 with
        | nil => cases hm
        | cons _ _ => cases hae
      | false =>
        obtain ⟨i0, at2, rfl⟩ : ∃ i0 at2, at1 = i0 :: at2 := by
          cases at1 with
          | nil => cases hae
          | cons a c => exact ⟨a, c, rfl⟩
        have hm : i0 ∈ (List.range (ls.length - f)).filter (fun i => (ls.getD (f + i) []).getD c 0 != 0) := by rw [hat]; exact List.mem_cons_self
        rw [List.mem_filter] at hm
        have hi0 : i0 < ls.length - f := by simpa using hm.1
        have hk0 : f + i0 < ls.length := by omega
        have hget : ls[f + i0]? = some ls[f + i0] := List.getElem?_eq_getElem hk0
        have hnz : ls[f + i0].getD c 0 ≠ 0 := by
          have := hm.2
          rw [List.getD_eq_getElem?_getD (l := ls), hget] at this
          simpa using this
        generalize hhd : ls[f + i0] = hd at hget hnz
        have hst := hL.step (Nat.le_add_right f i0) hget hnz
        have hhw : hd.length = m := hL.wid _ (List.mem_of_getElem? hget)
        have hhb : Bd (gr n f) hd := hL.bdf _ (List.mem_of_getElem? hget)
        have htl : (MX.tail ls (f + i0) f).length = ls.length - 1 - f := by unfold MX.tail; rw [List.length_drop, List.length_eraseIdx_of_lt hk0]
        have hgm : gr n (f + 1) ≤ top := Nat.le_trans (gr_mono n (by omega)) hg
        have hgm0 : gr n f ≤ top := Nat.le_trans (gr_mono n (by omega)) hg
        walk_at "gs"
        refine ⟨.int ((f + i0 : Nat)), atI_nat (j := 0) rfl, ?_⟩
        walk_at "gs"
        refine ⟨f + i0, lisD hd, by rw [hLm]; exact ixN_of hk0, by rw [List.getElem?_map, hget] <;> rfl, by omega, by omega, ?_⟩
        walk_at "gs"
        refine ⟨by rw [List.length_eraseIdx]; split <;> omega, by omega, by omega, ?_⟩
        rw [Int.toNat_natCast]
        have e1 : ((ls.map lisD).eraseIdx (f + i0)).take f ++ [lisD hd] ++ ((ls.map lisD).eraseIdx (f + i0)).drop f = (ls.take f ++ [hd] ++ MX.tail ls (f + i0) f).map lisD := by
          rw [List.map_append, List.map_append, List.map_take, List.map_cons, List.map_nil]
          unfold MX.tail
          rw [List.map_drop, erase_map, ← List.map_take (l := ls.eraseIdx (f + i0)), take_erase (Nat.le_add_right f i0), List.map_take]
        rw [e1]
        generalize htt : MX.tail ls (f + i0) f = tl at *
        have hpl : (ls.take f ++ [hd]).length = f + 1 := by rw [List.length_append, List.length_take]; simp; omega
        have htm : ∀ (i : Nat) (x : IRow), tl[i]? = some x → x.length = m ∧ Bd (gr n f) x := fun i x hx => by
          have hx2 : x ∈ MX.tail ls (f + i0) f := by rw [htt]; exact List.mem_of_getElem? hx
          obtain ⟨j, _, hj⟩ := mem_tail (Nat.le_add_right f i0) hx2
          exact ⟨hL.wid _ (List.mem_of_getElem? hj), hL.bdf _ (List.mem_of_getElem? hj)⟩
        walk_at "gs"
        have hll : ((ls.take f ++ [hd] ++ tl).map lisD).length = ls.length := by rw [List.length_map, List.length_append, hpl, htl]; omega
        rw [hll]
        walk_at "om"
        refine for_of (as := List.range (ls.length - (f + 1))) (g := fun i => Dt.int (((f : Nat) : Int) + 1 + (i : Nat))) (Iv := fun i γ => ∃ (s6 s7 s8 s9 s10 s11 s12 : Sl), γ = [.val (rowsD rs), .own l ((ls.take f ++ [hd] ++ ((tl.take i).map (nextA hd c) ++ tl.drop i)).map lisD), .val (.int ((f : Nat) + 1)), .val (.int (0 + (c : Nat))), .val (.lst ((i0 :: at2).map fun i => Dt.int ((f + i : Nat)))), .val (lisD hd), s6, s7, s8, s9, s10, s11, s12]) ?_ ?_ (fun i a γ' hi hI => ?_) (fun γ' hI => ?_)
        · rw [show ((ls.length : Int) - (((f : Nat) : Int) + 1)).toNat = ls.length - (f + 1) by omega] <;> rfl
        · exact ⟨_, _, _, _, _, _, _, rfl⟩
        · obtain ⟨s6, s7, s8, s9, s10, s11, s12, rfl⟩ := hI
          have hil : i < ls.length - (f + 1) := by have := (List.getElem?_eq_some_iff.mp hi).1; simpa using this
          rw [List.getElem?_range hil] at hi
          cases hi
          have hitl : i < tl.length := by omega
          have hgi : tl[i]? = some tl[i] := List.getElem?_eq_getElem hitl
          obtain ⟨hxw, hxb⟩ := htm i _ hgi
          have hdrop : tl.drop i = tl[i] :: tl.drop (i + 1) := List.drop_eq_getElem_cons hitl
          generalize hx : tl[i] = x at hgi hxw hxb hdrop
          have hpre : (ls.take f ++ [hd] ++ (tl.take i).map (nextA hd c)).length = f + 1 + i := by rw [List.length_append, hpl, List.length_map, List.length_take]; omega
          have hsplit : ls.take f ++ [hd] ++ ((tl.take i).map (nextA hd c) ++ tl.drop i) = (ls.take f ++ [hd] ++ (tl.take i).map (nextA hd c)) ++ x :: tl.drop (i + 1) := by rw [hdrop, ← List.append_assoc]
          have hnew : ls.take f ++ [hd] ++ ((tl.take (i + 1)).map (nextA hd c) ++ tl.drop (i + 1)) = (ls.take f ++ [hd] ++ (tl.take i).map (nextA hd c)) ++ nextA hd c x :: tl.drop (i + 1) := by
            rw [List.take_add_one, hgi, List.map_append]
            simp
          rw [hsplit, hnew]
          generalize hpp : ls.take f ++ [hd] ++ (tl.take i).map (nextA hd c) = pre at hpre
          have hat3 : atI ((pre ++ x :: tl.drop (i + 1)).map lisD) (((f : Nat) : Int) + 1 + (i : Nat)) = some (lisD x) := by
            rw [show ((f : Nat) : Int) + 1 + (i : Nat) = ((f + 1 + i : Nat) : Int) by omega]
            exact atI_nat (by rw [List.getElem?_map, List.getElem?_append_right (by omega), hpre, Nat.sub_self] <;> rfl)
          have hsep : sepD ((pre ++ x :: tl.drop (i + 1)).map lisD) (lisD x) := sep_rows (by simp)
          walk_at "gs"
          refine ⟨_, hat3, hsep, ?_⟩
          walk_at "gs"
          have hlx : (x.map Dt.int).length = (hd.map Dt.int).length := by rw [List.length_map, List.length_map, hxw, hhw]
          have hzl : (zipD (x.map Dt.int) (hd.map Dt.int)).length ≤ 100000 := by rw [zipD_len, List.length_map, List.length_map]; omega
          refine ⟨hlx, hzl, ?_⟩
          have htop : ∀ y : Int, y.natAbs < 2 ^ (gr n f) → y.natAbs < 2 ^ top := fun y hy => Nat.lt_of_lt_of_le hy (Nat.pow_le_pow_right (by decide) hgm0)
          refine wd_map (as := x.zip hd) (g := fun p => .tup [.int p.1, .int p.2]) (f := fun p => .int (hd.getD c 0 * p.1 - x.getD c 0 * p.2)) zipD_map (fun j p hp Q hQ => ?_) ?_
          · have hp2 := List.of_mem_zip (List.mem_of_getElem? hp)
            walk_at "gs"
            refine ⟨.int (hd.getD c 0), by rw [Int.zero_add]; exact getD_at (by omega), ?_⟩
            walk_at "gs"
            refine ⟨mulW (htop _ (hhb.getD c)) (htop _ (hxb _ hp2.1)), ?_⟩
            walk_at "gs"
            refine ⟨_, hat3, ?_⟩
            walk_at "gs"
            refine ⟨.int (x.getD c 0), by rw [Int.zero_add]; exact getD_at (by omega), ?_⟩
            walk_at "gs"
            refine ⟨mulW (htop _ (hxb.getD c)) (htop _ (hhb _ hp2.2)), ?_⟩
            walk_at "gs"
            exact hQ
          rw [zip_int (h := fun a b => hd.getD c 0 * a - x.getD c 0 * b)]
          have hcb : Bd top (comb (hd.getD c 0) (x.getD c 0) x hd) := by
            have := comb_bd hxb hhb (hhb.getD c) (hxb.getD c)
            rw [← gr_succ] at this
            exact this.mono hgm
          have hcl : (comb (hd.getD c 0) (x.getD c 0) x hd).length = m := by rw [comb_len (by rw [hxw, hhw]), hxw]
          show ∀ l, _
          have hcomb : List.zipWith (fun a b => hd.getD c 0 * a - x.getD c 0 * b) x hd = comb (hd.getD c 0) (x.getD c 0) x hd := rfl
          rw [hcomb]
          have hnx : nextA hd c x = shortF (comb (hd.getD c 0) (x.getD c 0) x hd) := rfl
          rw [hnx]
          generalize comb (hd.getD c 0) (x.getD c 0) x hd = cb at hcb hcl
          intro la
          walk_at "gs"
          refine ⟨cb, _, rfl, .inl rfl, by omega, ?_⟩
          walk_at "gs"
          have hcl2 : (cb.map Dt.int).length ≤ 100000 := by rw [List.length_map]; omega
          refine ⟨hcl2, ?_⟩
          have hmx : (if ((gcdL cb : Nat) : Int) > 1 then ((gcdL cb : Nat) : Int) else 1) = ((max 1 (gcdL cb) : Nat) : Int) := by split <;> omega
          rw [hmx]
          have hmb : (max 1 (gcdL cb)) < 2 ^ top := by
            have h2 := gcdL_lt hcb
            have h3 : 1 < 2 ^ top := Nat.one_lt_pow (by decide) (by decide)
            omega
          refine wd_map (as := cb) (g := Dt.int) (f := fun y => .int (y / ((max 1 (gcdL cb) : Nat) : Int))) rfl (fun j y hy Q hQ => ?_) ?_
          · walk_at "gs"
            exact ⟨wide_div (b := top) (by omega) (by rw [Int.natAbs_natCast]; exact hmb) (by decide) (by decide), hQ⟩
          walk_at "gs"
          have hsh : (cb.map fun y => Dt.int (y / ((max 1 (gcdL cb) : Nat) : Int))) = (shortF cb).map Dt.int := by
            unfold shortF
            by_cases q : gcdL cb ≤ 1
            · rw [if_pos q, show max 1 (gcdL cb) = 1 by omega]
              apply List.map_congr_left
              intro y _
              show Dt.int (y / ((1 : Nat) : Int)) = Dt.int y
              rw [show ((1 : Nat) : Int) = 1 from rfl, Int.ediv_one]
            · rw [if_neg q, show max 1 (gcdL cb) = gcdL cb by omega, List.map_map] <;> rfl
          rw [hsh]
          have hpl2 : ((pre ++ x :: tl.drop (i + 1)).map lisD).length = ls.length := by rw [List.length_map, List.length_append, List.length_cons, List.length_drop, hpre]; omega
          refine ⟨f + 1 + i, by rw [hpl2, show ((f : Nat) : Int) + 1 + (i : Nat) = ((f + 1 + i : Nat) : Int) by omega]; exact ixN_of (by omega), ?_⟩
          rw [List.map_append, List.map_cons, set_mid _ _ _ _ _ (by rw [List.length_map, hpre]), List.map_append, List.map_cons]
          exact ⟨_, _, _, _, _, _, _, rfl⟩
        · obtain ⟨s6, s7, s8, s9, s10, s11, s12, rfl⟩ := hI
          rw [List.length_range, List.take_of_length_le (show tl.length ≤ ls.length - (f + 1) by omega), List.drop_of_length_le (show tl.length ≤ ls.length - (f + 1) by omega), List.append_nil]
          walk_at "gs"
          exact ⟨_, _, _, _, _, _, _, _, _, _, _, _, _, rfl, hst⟩
    · obtain ⟨ls, f, ps, s3, s4, s5, s6, s7, s8, s9, s10, s11, s12, rfl, hL⟩ := hI
      rw [List.length_range] at hL
      walk_at "gs"
      rw [rk_of (fun x hx => (hrs x hx).1) hL.isRk] at hR
      exact hR

theorem ok_same (Z : Fc K mg) : ∀ n : Nat, FnOk P w K mg base CX0 (n + 1) Z.a_same Z.fd_same P_same (spD b 2 (sameT n))
  | 0 => sameT_zero
  | n + 1 => by
    have G_same : FnOk P w K mg base CX0 (n + 1) Z.a_same Z.fd_same P_same (spD b 2 (sameT n)) := ok_same Z n
    refine fn_D Z.F_same sc_same fun X outer cdv A s H E hX hr => ?_
    subst hX
    have nd := sc_same.nd
    refine ⟨_, (ss_cons (s_if (t_isN (xv 1)) (ss_one (s_ret (x_isN (xv 0)))) ss_nil)
      (ss_cons (s_if (t_w (w_or (t_val (x_isi1 kit_kbool (by rfl) Z.z_isinstance (by rfl) Z.z_bool (by decide +kernel) (xv 1))) (w_or1 (t_val (x_isi1 kit_kbool (by rfl) Z.z_isinstance (by rfl) Z.z_bool (by decide +kernel) (xv 0)))))) (ss_one (s_ret (x_and (x_isi1 kit_kbool (by rfl) Z.z_isinstance (by rfl) Z.z_bool (by decide +kernel) (xv 1)) (x_and (x_isi1 kit_kbool (by rfl) Z.z_isinstance (by rfl) Z.z_bool (by decide +kernel) (xv 0)) (x_one (x_eq hr.units (xv 0) (xv 1))))))) ss_nil)
      (ss_cons (s_if (t_val (x_isi2 kit_kint kit_kstr (by rfl) Z.z_isinstance (by rfl) Z.z_int (by decide +kernel) (by rfl) Z.z_str (by decide +kernel) (xv 1))) (ss_one (s_ret (x_and (x_isi2 kit_kint kit_kstr (by rfl) Z.z_isinstance (by rfl) Z.z_int (by decide +kernel) (by rfl) Z.z_str (by decide +kernel) (xv 0)) (x_and (x_eq hr.units (x_isi1 kit_kint (by rfl) Z.z_isinstance (by rfl) Z.z_int (by decide +kernel) (xv 0)) (x_isi1 kit_kint (by rfl) Z.z_isinstance (by rfl) Z.z_int (by decide +kernel) (xv 1))) (x_one (x_eq hr.units (xv 0) (xv 1))))))) ss_nil)
      (ss_cons (s_if (t_w (w_or (t_ne hr.units (x_isi1 kit_klist (by rfl) Z.z_isinstance (by rfl) Z.z_list (by decide +kernel) (xv 1)) (x_isi1 kit_klist (by rfl) Z.z_isinstance (by rfl) Z.z_list (by decide +kernel) (xv 0))) (w_or1 (t_ne hr.units (x_isi1 kit_ktuple (by rfl) Z.z_isinstance (by rfl) Z.z_tuple (by decide +kernel) (xv 1)) (x_isi1 kit_ktuple (by rfl) Z.z_isinstance (by rfl) Z.z_tuple (by decide +kernel) (xv 0)))))) (ss_one (s_ret x_bl)) ss_nil)
      (ss_cons (s_if (t_w (w_or (t_not (t_val (x_isi2 kit_klist kit_ktuple (by rfl) Z.z_isinstance (by rfl) Z.z_list (by decide +kernel) (by rfl) Z.z_tuple (by decide +kernel) (xv 0)))) (w_or1 (t_ne hr.units (x_len (by rfl) Z.z_len (a_cons (xv 0) a_nil)) (x_len (by rfl) Z.z_len (a_cons (xv 1) a_nil)))))) (ss_one (s_ret x_bl)) ss_nil)
      (ss_one (s_ret (x_all rfl (by rfl) Z.z_all (a_cons (x_l (l_lc rfl nd (vs := [2, 3]) (i_zip2 (by rfl) Z.z_zip (a_cons (xv 0) (a_cons (xv 1) a_nil))) (blkOk_by (own := [("_law_one", 2), ("_law_two", 3)]) (N := N_same) (sc := (defScope s_same)) (by decide +kernel)) (fun _ => (g_tup' (m := 2) rfl (gs_cons (g_name (i := 2) nd rfl (by first | exact .inl rfl | exact .inr rfl)) (gs_cons (g_name (i := 3) nd rfl (by first | exact .inl rfl | exact .inr rfl)) gs_nil)))) (fun _ => ts_nil) (fun _ => (x_call (CX := CX0) (G_same) hr (by rfl) Z.g_same Z.F_same.kp Z.b_same (a_cons (xv 2) (a_cons (xv 3) a_nil)))) (by simp))) a_nil))))))))), fun ds R hl hT => ?_⟩
    match ds, hT with
    | [x, y], ⟨hxy, ok, hd, hR⟩ =>
    subst hxy
    rw [show startD N_same [x, x] = [.val x, .val x, .un, .un] from rfl]
    have seq : ∀ xs : List Dt, xs.length ≤ 100000 → okSL xs = true → depL xs ≤ n → ∀ γ : Gm, γ = [.val x, .val x, .un, .un] →
        dLc (fun γ P => P (zipD xs xs)) (gTu 2 (gsCons (gN 2) (gsCons (gN 3) gsNil))) (fun _ P => P true) (dCall 2 (sameT n) (aCons (dVar 2) (aCons (dVar 3) aNil))) [2, 3] γ (fun ds => ∃ ns : List Bool, [Dt.lst ds] = [Dt.lst (ns.map Dt.bl)] ∧ R (.bl (ns.all id))) := fun xs hl ho hdp γ hγ => by
      subst hγ
      have hz : (zipD xs xs).length = xs.length := by rw [zipD_len]; omega
      refine ⟨by rw [hz]; exact hl, fun i acc => acc = List.replicate i (.bl true), rfl, fun i d acc hi _ e => ?_, fun acc _ e => ?_⟩
      · have hx : ∃ z, xs[i]? = some z ∧ d = .tup [z, z] := by
          have h2 := hi
          unfold zipD at h2
          rw [List.getElem?_zipWith] at h2
          cases e3 : xs[i]? with
          | none => rw [e3] at h2; cases h2
          | some z => rw [e3] at h2; exact ⟨z, rfl, (Option.some.inj h2).symm⟩
        obtain ⟨z, hz1, rfl⟩ := hx
        have hm := List.mem_of_getElem? hz1
        walk_at "go1"
        refine ⟨rfl, ?_⟩
        walk_at "go1"
        refine ⟨rfl, rfl, okSL_mem ho hm, Nat.le_trans (depL_mem hm) hdp, ?_⟩
        show acc ++ [Dt.bl true] = List.replicate (i + 1) (.bl true)
        rw [e, List.replicate_succ']
      · refine ⟨List.replicate xs.length true, ?_, ?_⟩
        · rw [e, hz, List.map_replicate]
        · have hall : (List.replicate xs.length true).all id = true := by
            rw [List.all_eq_true]
            intro b hb
            exact List.eq_of_mem_replicate hb
          rw [hall]
          exact hR
    cases x with
    | non => walk_at "go"; exact hR
    | bl k => walk_at "go"; cases k <;> exact hR
    | int k =>
      walk_at "go"
      rw [show (decide (k = k)) = true from decide_eq_true rfl]
      exact hR
    | str k =>
      walk_at "go"
      rw [show (decide (k = k)) = true from decide_eq_true rfl]
      exact hR
    | lst xs =>
      have ok2 : (decide (xs.length ≤ 100000) && okSL xs) = true := ok
      rw [Bool.and_eq_true] at ok2
      have hd2 : depL xs + 1 ≤ n + 1 := hd
      walk_at "go"
      rw [show (decide ((xs.length : Int) = (xs.length : Int))) = true from decide_eq_true rfl]
      walk_at "go1"
      refine ⟨rfl, ?_⟩
      walk_at "go1"
      exact seq xs (of_decide_eq_true ok2.1) ok2.2 (by omega) _ rfl
    | tup xs =>
      have ok2 : (decide (xs.length ≤ 100000) && okSL xs) = true := ok
      rw [Bool.and_eq_true] at ok2
      have hd2 : depL xs + 1 ≤ n + 1 := hd
      walk_at "go"
      rw [show (decide ((xs.length : Int) = (xs.length : Int))) = true from decide_eq_true rfl]
      walk_at "go1"
      refine ⟨rfl, ?_⟩
      walk_at "go1"
      exact seq xs (of_decide_eq_true ok2.1) ok2.2 (by omega) _ rfl
    | ins C fs => cases ok
    | dT kvs => cases ok
    | dK kvs => cases ok
    | ptr a => cases ok
    | bag => cases ok
    | exc C fs => cases ok
    | lam L k => cases ok
    | clo L ds => cases ok

/-- the law -/
def spLaw (K : PySem.W.Frag) : Sp := fun vs H Q _ => ∃ (a : Addr) (ns : List Int), vs = [.ref a] ∧ SqL K H a (ns.map V.int) ∧ ns.length ≤ 63 ∧ ∀ H', Q (.bl true) H'
set_option maxHeartbeats 40000000 in
theorem ok_law (Z : Fc K mg) {f : Addr} {fd : FuncData} (F : Fun K "law" "law" s_law f fd) : FnOk P w K mg base CX0 5 f fd ["_law_script"] (spLaw K) := by
    have G_bag : FnOk P w K mg base CX0 1 Z.a_bag Z.fd_bag P_bag (spBag K) := ok_bag Z
    have G_take : ∀ a, FnOk P w K mg base CX0 1 Z.a_take Z.fd_take P_take (spD ⟨some a, fun _ => Str.empty, []⟩ 2 takeT) := fun a => ok_take Z a _ _
    have G_of : ∀ a, FnOk P w K mg base CX0 2 Z.a_of Z.fd_of P_of (spD ⟨some a, fun _ => Str.empty, []⟩ 2 ofT) := fun a => ok_of Z (G_take a)
    have G_numbers : ∀ a, FnOk P w K mg base CX0 3 Z.a_numbers Z.fd_numbers P_numbers (spD ⟨some a, fun _ => Str.empty, []⟩ 2 sp_numbers) := fun a => ok_numbers Z (G_of a) (G_take a)
    have G_lines : ∀ a, FnOk P w K mg base CX0 4 Z.a_lines Z.fd_lines P_lines (spD ⟨some a, fun _ => Str.empty, []⟩ 3 sp_lines) := fun a => ok_lines Z (G_numbers a) (G_of a) (G_take a)
    have G__width_of : ∀ a, FnOk P w K mg base CX0 1 Z.a__width_of Z.fd__width_of P__width_of (spD ⟨some a, fun _ => Str.empty, []⟩ 1 sp__width_of) := fun a => ok__width_of Z 
    have G__shortened : ∀ a, FnOk P w K mg base CX0 1 Z.a__shortened Z.fd__shortened P__shortened (spD ⟨some a, fun _ => Str.empty, []⟩ 1 sp__shortened) := fun a => ok__shortened Z 
    have G__cleared : ∀ a, FnOk P w K mg base CX0 2 Z.a__cleared Z.fd__cleared P__cleared (spD ⟨some a, fun _ => Str.empty, []⟩ 2 sp__cleared) := fun a => ok__cleared Z (G__shortened a)
    have G__leading : ∀ a, FnOk P w K mg base CX0 1 Z.a__leading Z.fd__leading P__leading (spD ⟨some a, fun _ => Str.empty, []⟩ 2 sp__leading) := fun a => ok__leading Z 
    have G__parted : ∀ a, FnOk P w K mg base CX0 3 Z.a__parted Z.fd__parted P__parted (spD ⟨some a, fun _ => Str.empty, []⟩ 2 sp__parted) := fun a => ok__parted Z (G__cleared a) (G__leading a)
    have G_identity : ∀ a, FnOk P w K mg base CX0 1 Z.a_identity Z.fd_identity P_identity (spD ⟨some a, fun _ => Str.empty, []⟩ 1 sp_identity) := fun a => ok_identity Z 
    have G__marked : ∀ a, FnOk P w K mg base CX0 2 Z.a__marked Z.fd__marked P__marked (spD ⟨some a, fun _ => Str.empty, []⟩ 1 sp__marked) := fun a => ok__marked Z (G_identity a)
    have G_kernel : ∀ a, FnOk P w K mg base CX0 4 Z.a_kernel Z.fd_kernel P_kernel (spD ⟨some a, fun _ => Str.empty, []⟩ 1 (lstS sp_kernel)) := fun a => ok_kernel Z (G__marked a) (G__parted a) (G__width_of a)
    have GF_kernel : ∀ a, FnOk P w K mg base CX0 4 Z.a_kernel Z.fd_kernel P_kernel (spL ⟨some a, fun _ => Str.empty, []⟩ 1 sp_kernel) := fun a => okF_kernel Z (G__marked a) (G__parted a) (G__width_of a)
    have G_divisor : ∀ a, FnOk P w K mg base CX0 1 Z.a_divisor Z.fd_divisor P_divisor (spD ⟨some a, fun _ => Str.empty, []⟩ 1 sp_divisor) := fun a => ok_divisor Z 
    have G_lrank : ∀ a, FnOk P w K mg base CX0 2 Z.a_lrank Z.fd_lrank P_lrank (spD ⟨some a, fun _ => Str.empty, []⟩ 1 sp_lrank) := fun a => ok_lrank Z (G_divisor a)
    have G_same : ∀ a, FnOk P w K mg base CX0 4 Z.a_same Z.fd_same P_same (spD ⟨some a, fun _ => Str.empty, []⟩ 2 (sameT 3)) := fun a => ok_same Z 3
    refine F.ok sc_law (fun vs H Q E h => ?_) (fun cdv A outer s H vs Q E hr h => ?_)
    · obtain ⟨a, ns, rfl, _⟩ := h
      rfl
    obtain ⟨a, ns, rfl, hS, hlen, q⟩ := h
    have nd := sc_law.nd
    obtain ⟨te, t1, t2⟩ := law_rest (nm := fun _ => Str.empty) (tb := []) (X := (cxOf CX0 P w K mg base N_law "law" (defScope s_law) f cdv A outer s H E).nox) (st := (defBody s_law).tail) (fun a => (ss_cons (s_for rfl (i_rng1 (by rfl) Z.z_range (a_cons x_int a_nil)) (g_name (i := 2) nd rfl (by first | exact .inl rfl | exact .inr rfl)) (ss_cons (s_par (i := 3) (j := 4) rfl nd rfl rfl (by decide) rfl rfl (a_cons (x_call (CX := CX0) (G_take a) (hr.mono (by decide)) (by rfl) Z.g_take Z.F_take.kp Z.b_take (a_cons (xv 1) (a_cons x_int a_nil))) (a_cons (x_addI x_int (x_call (CX := CX0) (G_take a) (hr.mono (by decide)) (by rfl) Z.g_take Z.F_take.kp Z.b_take (a_cons (xv 1) (a_cons x_int a_nil)))) a_nil)) (by rfl))
      (ss_cons (s_set (i := 5) nd rfl (.inr rfl) (x_call (CX := CX0) (G_lines a) (hr.mono (by decide)) (by rfl) Z.g_lines Z.F_lines.kp Z.b_lines (a_cons (xv 1) (a_cons (xv 3) (a_cons (xv 4) a_nil)))))
      (ss_cons (s_parL (i := 6) (j := 7) rfl nd rfl rfl (by decide) rfl rfl (l_call (CX := CX0) (GF_kernel a) (hr.mono (by decide)) (by rfl) Z.g_kernel Z.F_kernel.kp Z.b_kernel (a_cons (xv 5) a_nil)) (x_sub (xv 3) (x_call (CX := CX0) (G_lrank a) (hr.mono (by decide)) (by rfl) Z.g_lrank Z.F_lrank.kp Z.b_lrank (a_cons (xv 5) a_nil))) (by rfl))
      (ss_cons (s_if (t_w (w_or (t_not (t_lend 6 (t_val (x_isi1 kit_klist (by rfl) Z.z_isinstance (by rfl) Z.z_list (by decide +kernel) (xv 6))))) (w_or (t_lend 6 (t_ne hr.units (x_len (by rfl) Z.z_len (a_cons (xv 6) a_nil)) (xv 7))) (w_or1 (t_lend 6 (t_ne hr.units (x_call (CX := CX0) (G_lrank a) (hr.mono (by decide)) (by rfl) Z.g_lrank Z.F_lrank.kp Z.b_lrank (a_cons (xv 6) a_nil)) (xv 7))))))) (ss_one (s_ret x_bl)) ss_nil)
      (ss_cons (s_forO 6 rfl (g_name (i := 8) nd rfl (by first | exact .inl rfl | exact .inr rfl)) (ss_cons (s_if (t_w (w_or (t_not (t_val (x_isi1 kit_ktuple (by rfl) Z.z_isinstance (by rfl) Z.z_tuple (by decide +kernel) (xv 8)))) (w_or1 (t_ne hr.units (x_len (by rfl) Z.z_len (a_cons (xv 8) a_nil)) (xv 3))))) (ss_one (s_ret x_bl)) ss_nil)
      (ss_cons (s_if (t_not (t_val (x_all rfl (by rfl) Z.z_all (a_cons (x_l (l_lc rfl nd (vs := [10]) (i_tup (xv 8)) (blkOk_by (own := [("_law_one", 10)]) (N := N_law) (sc := (defScope s_law)) (by decide +kernel)) (fun _ => (g_name (i := 10) nd rfl (by first | exact .inl rfl | exact .inr rfl))) (fun _ => ts_nil) (fun _ => (x_and (x_isi1 kit_kint (by rfl) Z.z_isinstance (by rfl) Z.z_int (by decide +kernel) (xv 10)) (x_one (x_not (x_isi1 kit_kbool (by rfl) Z.z_isinstance (by rfl) Z.z_bool (by decide +kernel) (xv 10)))))) (by simp))) a_nil)))) (ss_one (s_ret x_bl)) ss_nil)
      (ss_one (s_if (t_ne hr.units (x_l (l_lc rfl nd (vs := [11]) (i_rng1 (by rfl) Z.z_range (a_cons (xv 4) a_nil)) (blkOk_by (own := [("_law_j", 11)]) (N := N_law) (sc := (defScope s_law)) (by decide +kernel)) (fun _ => (g_name (i := 11) nd rfl (by first | exact .inl rfl | exact .inr rfl))) (fun _ => ts_nil) (fun _ => (x_sum rfl (by rfl) Z.z_sum (a_cons (x_l (l_lc rfl nd (vs := [12, 13]) (i_zip2 (by rfl) Z.z_zip (a_cons (xv 8) (a_cons (xv 5) a_nil))) (blkOk_by (own := [("_law_c", 12), ("_law_line", 13)]) (N := N_law) (sc := (relS (cSc [(".0", .local), ("_law_j", .cell), ("sum", .globalImplicit), ("zip", .globalImplicit), ("_law_numbers_here", .free), ("_law_rows_z", .free)]) (defScope s_law))) (by decide +kernel)) (fun _ => (g_tup' (m := 2) rfl (gs_cons (g_name (i := 12) nd rfl (by first | exact .inl rfl | exact .inr rfl)) (gs_cons (g_name (i := 13) nd rfl (by first | exact .inl rfl | exact .inr rfl)) gs_nil)))) (fun _ => ts_nil) (fun _ => (x_mulW (xv 12) (x_ix (xv 13) (xv 11)))) (by simp))) a_nil))) (by simp))) (x_rep (x_l (l_lst (a_cons x_int a_nil))) (xv 4))) (ss_one (s_ret x_bl)) ss_nil)))))
      (ss_cons (s_set (i := 9) nd rfl (.inl rfl) (x_l (l_lend 6 (l_listOf (by rfl) Z.z_list (a_cons (xv 6) a_nil)))))
      (ss_cons (s_app 6 x_non)
      (ss_one (s_if (t_not (t_truth (x_call (CX := CX0) (G_same a) (hr.mono (by decide)) (by rfl) Z.g_same Z.F_same.kp Z.b_same (a_cons (x_callK0 (G_kernel a) (hr.mono (by decide)) (by rfl) Z.g_kernel Z.F_kernel.kp (Z.k_kernel_rows) (fun r r2 => rep_sel _ _ _ r r2) (k_cons (x_tupleOf (by rfl) Z.z_tuple (a_cons (xv 5) a_nil)) k_nil)) (a_cons (xv 9) a_nil))))) (ss_one (s_ret x_bl)) ss_nil))))))))))
      (ss_one (s_ret (x_call (CX := CX0) (G_same a) (hr.mono (by decide)) (by rfl) Z.g_same Z.F_same.kp Z.b_same (a_cons (x_call (CX := CX0) (G_kernel a) (hr.mono (by decide)) (by rfl) Z.g_kernel Z.F_kernel.kp Z.b_kernel (a_cons (x_l (l_lst a_nil)) a_nil)) (a_cons (x_l (l_lst a_nil)) a_nil)))))))
    refine ⟨_, pss_cons (ps_set (i := 1) nd rfl (.inl rfl) (pe_call G_bag (hr.mono (by decide)) (by rfl) Z.g_bag Z.F_bag.kp Z.b_bag .nil pass0 (pa_cons (pv 0) pa_nil))) t1, ?_⟩
    refine ⟨.ref a, rfl, a, ns, rfl, hS, hlen, fun p c cs m H' hex hcs m0 m1 hc hp => ?_⟩
    refine law_go (γ := [.un, .val .bag, .un, .un, .un, .un, .un, .un, .un, .un, .un, .un, .un, .un]) t2 hcs m0 m1 hc hp (by intro _ h; cases h) (N := N_law) (i := 1) rfl rfl q ?_
    walk_at "gs"
    refine ⟨fun _ γ => ∃ s2 s3 s4 s5 s6 s7 s8 s9 s10 s11 s12 s13 : Sl, γ = [.un, .val .bag, s2, s3, s4, s5, s6, s7, s8, s9, s10, s11, s12, s13] ∧ s8.adr = none ∧ s9.adr = none ∧ s10.adr = none ∧ s11.adr = none ∧ s12.adr = none ∧ s13.adr = none, ⟨_, _, _, _, _, _, _, _, _, _, _, _, rfl, rfl, rfl, rfl, rfl, rfl, rfl⟩, fun i d γ' hi hI => ?_, fun γ' hI => ?_⟩
    · obtain ⟨s2, s3, s4, s5, s6, s7, s8, s9, s10, s11, s12, s13, rfl, q8, q9, q10, q11, q12, q13⟩ := hI
      walk_at "gs"
      intro many k0 k1
      walk_at "gs"
      intro wi w0 w1
      walk_at "gs"
      walk_at "om"
      intro rs hl hr
      walk_at "gs"
      obtain ⟨n, rfl⟩ : ∃ n : Nat, many = n := ⟨many.toNat, by omega⟩
      obtain ⟨v, rfl⟩ : ∃ v : Nat, wi = v := ⟨wi.toNat, by omega⟩
      have hl' : rs.length = n := by omega
      have hr' : ∀ r ∈ rs, r.length = 1 + v ∧ Bd 41 r := fun r h => ⟨by have := (hr r h).1; omega, (hr r h).2.mono (by omega)⟩
      have hg : gr 41 (1 + v) ≤ top := Nat.le_trans (gr_mono 41 (show 1 + v ≤ 6 by omega)) (by decide)
      have ka := ker_all (by decide) hr' hg
      have kl := ker_len (by decide) hr' hg
      have kr := ker_rk (by decide) hr' hg
      have ks : ∀ s0, (s0 = Dt.lst (rs.map rowD) ∨ s0 = Dt.tup (rs.map rowD)) → ∀ P : List Dt → Prop, P ((kerR (1 + v) rs).map rowD) → sp_kernel [s0] P := fun s0 h0 P hP => ⟨rs, s0, 41, 1 + v, rfl, h0, hr', by decide, by omega, by omega, hg, hP⟩
      have hgn : gr 41 rs.length ≤ top := Nat.le_trans (gr_mono 41 (show rs.length ≤ 6 by omega)) (by decide)
      generalize hzs : kerR (1 + v) rs = zs at *
      refine ks _ (.inl rfl) _ ?_
      walk_at "gs"
      refine ⟨rs, 1 + v, 41, rfl, hr', by omega, by omega, hgn, ?_⟩
      walk_at "gs"
      intro l
      walk_at "gs"
      have em : (n : Int) - (rkF (1 + v) rs : Nat) = (zs.length : Nat) := by omega
      rw [em]
      walk_at "gs"
      rw [show decide (((zs.map rowD).length : Int) = ((zs.length : Nat) : Int)) = true from decide_eq_true (by rw [List.length_map])]
      walk_at "gs"
      refine ⟨zs, rs.length, gr 41 (rkF (1 + v) rs), rfl, fun z hz => ⟨(ka z hz).1, (ka z hz).2.1⟩, by omega, by omega, by rw [gr_gr, kl]; exact hgn, ?_⟩
      rw [kr]
      walk_at "gs"
      rw [show decide (((zs.length : Nat) : Int) = ((zs.length : Nat) : Int)) = true from decide_eq_true rfl]
      walk_at "gs"
      refine ⟨fun j hj => ?_, for_of (as := zs) (g := rowD) (Iv := fun i γ => ∃ (s8 s10 s11 s12 s13 : Sl), γ = [.un, .val .bag, .val d, .val (.int (n : Nat)), .val (.int (1 + (v : Nat))), .val (rowsD rs), .val (.ptr l), .val (.int (zs.length : Nat)), s8, s9, s10, s11, s12, s13] ∧ s8.adr = none ∧ s10.adr = none ∧ s11.adr = none ∧ s12.adr = none ∧ s13.adr = none) rfl ?_ (fun i z γ' hx hI => ?_) (fun γ' hI => ?_)⟩
      · match j, hj with
        | 0, _ => first | exact rfl | assumption
        | 1, _ => first | exact rfl | assumption
        | 2, _ => first | exact rfl | assumption
        | 3, _ => first | exact rfl | assumption
        | 4, _ => first | exact rfl | assumption
        | 5, _ => first | exact rfl | assumption
        | 6, hj => exact absurd rfl hj
        | 7, _ => first | exact rfl | assumption
        | 8, _ => first | exact rfl | assumption
        | 9, _ => first | exact rfl | assumption
        | 10, _ => first | exact rfl | assumption
        | 11, _ => first | exact rfl | assumption
        | 12, _ => first | exact rfl | assumption
        | 13, _ => first | exact rfl | assumption
        | j + 14, _ => exact rfl
      · exact ⟨_, _, _, _, _, rfl, q8, q10, q11, q12, q13⟩
      · obtain ⟨s8, s10, s11, s12, s13, rfl, p8, p10, p11, p12, p13⟩ := hI
        obtain ⟨z1, z2, z3⟩ := ka z (List.mem_of_getElem? hx)
        walk_at "gs"
        rw [show decide (((z.map Dt.int).length : Int) = ((n : Nat) : Int)) = true from decide_eq_true (by rw [List.length_map]; omega)]
        walk_at "gs"
        refine ⟨by rw [List.length_map]; omega, ?_⟩
        refine wd_map (as := z) (g := Dt.int) (f := fun _ => .bl ((fun _ => true) ())) rfl (fun k y _ Q hQ => ?_) ?_
        · walk_at "go"
          exact hQ
        walk_at "gs"
        refine ⟨z.map fun _ => true, by rw [List.map_map] <;> rfl, ?_⟩
        rw [show (z.map fun _ => true).all id = true from by rw [List.all_map]; exact List.all_eq_true.mpr fun _ _ => rfl]
        walk_at "gs"
        refine ⟨by rw [rngD_len]; omega, ?_⟩
        refine wd_map (as := List.range (1 + (v : Int)).toNat) (g := fun j => Dt.int (0 + (j : Nat))) (f := fun _ => .int ((fun _ => (0 : Int)) ())) rfl (fun j0 j hj Q hQ => ?_) ?_
        · have hj2 : j < 1 + v := by have := List.mem_range.mp (List.mem_of_getElem? hj); omega
          walk_at "go"
          refine ⟨by rw [List.length_map, List.length_map]; omega, ?_⟩
          rw [zipD_map]
          refine ⟨by rw [List.length_map, List.length_zip]; omega, ?_⟩
          refine wd_map (as := z.zip rs) (g := fun p => .tup [.int p.1, rowD p.2]) (f := fun p => .int (p.1 * p.2.getD j 0)) rfl (fun k p hp Q2 hQ2 => ?_) ?_
          · have hpm := List.of_mem_zip (List.mem_of_getElem? hp)
            have hpr := hr' p.2 hpm.2
            walk_at "go"
            refine ⟨.int (p.2.getD j 0), ?_, mulW (Nat.lt_of_lt_of_le (z2 p.1 hpm.1) (Nat.pow_le_pow_right (by decide) (Nat.le_trans (gr_mono 41 (show rkF (1 + v) rs ≤ 6 by omega)) (by decide)))) (Nat.lt_of_lt_of_le (hpr.2.getD j) (Nat.pow_le_pow_right (by decide) (by decide))), hQ2⟩
            rw [show (0 : Int) + (j : Nat) = (j : Nat) by omega]
            refine atI_nat ?_
            rw [List.getElem?_map, List.getD_eq_getElem?_getD, List.getElem?_eq_getElem (show j < p.2.length by omega)] <;> rfl
          walk_at "go"
          refine sum_of (p := fun q : Int × IRow => q.1 * q.2.getD j 0) ?_
          have e0 : ((z.zip rs).map fun q : Int × IRow => q.1 * q.2.getD j 0).sum = 0 := by
            rw [sum_sm ((0 : Int), ([] : IRow)), show (z.zip rs).length = rs.length by rw [List.length_zip]; omega]
            refine Eq.trans (sm_congr fun k hk => ?_) (z3 j hj2)
            have g1 : (z.zip rs).getD k (0, []) = (z.getD k 0, rs.getD k []) := by
              rw [List.getD_eq_getElem?_getD, List.zip, List.getElem?_zipWith, List.getD_eq_getElem?_getD, List.getD_eq_getElem?_getD, List.getElem?_eq_getElem (show k < z.length by omega), List.getElem?_eq_getElem hk] <;> rfl
            rw [g1]
          rw [e0]
          exact hQ
        walk_at "go"
        have eA : (List.range (1 + (v : Int)).toNat).map (fun _ => Dt.int 0) = (List.replicate (1 + v) (0 : Int)).map fun y => Dt.int (y * 0) := by
          rw [List.map_const', List.length_range, List.map_replicate, show (1 + (v : Int)).toNat = 1 + v by omega] <;> rfl
        have eB : (List.replicate (1 + (v : Int)).toNat [Dt.int 0]).flatten = (List.replicate (1 + v) (0 : Int)).map fun y => Dt.int (y * 0) := by
          rw [flat_rep, List.map_replicate, show (1 + (v : Int)).toNat = 1 + v by omega] <;> rfl
        have okX := xs_ok (List.replicate (1 + v) (0 : Int)) 0
        rw [eA, eB, okX.2]
        refine ⟨okX.1, okX.1, ?_⟩
        walk_at "go"
        exact ⟨_, _, _, _, _, rfl, by first | exact rfl | assumption, by first | exact rfl | assumption, by first | exact rfl | assumption, by first | exact rfl | assumption, by first | exact rfl | assumption⟩
      obtain ⟨s8, s10, s11, s12, s13, rfl, p8, p10, p11, p12, p13⟩ := hI
      refine ⟨rfl, ?_⟩
      walk_at "gs"
      refine ⟨noLst_rows zs, ?_⟩
      walk_at "gs"
      have zsl : zs.length ≤ 1000 := by omega
      refine ⟨by rw [List.length_map]; omega, ?_⟩
      walk_at "gs"
      refine ks _ (.inr rfl) _ ?_
      walk_at "gs"
      have rsm := rows_same zsl fun z hz => show z.length ≤ 1000 by have := (ka z hz).1; omega
      refine ⟨rsm.1, rsm.2, ?_⟩
      walk_at "gs"
      exact ⟨_, _, _, _, _, _, _, _, _, _, _, _, rfl, by first | exact rfl | assumption, by first | exact rfl | assumption, by first | exact rfl | assumption, by first | exact rfl | assumption, by first | exact rfl | assumption, by first | exact rfl | assumption⟩
    obtain ⟨s2, s3, s4, s5, s6, s7, s8, s9, s10, s11, s12, s13, rfl, _⟩ := hI
    walk_at "gs"
    refine ⟨[], _, 1, 0, rfl, .inl rfl, (fun r h => by cases h), by decide, by decide, by decide, by decide, ?_⟩
    show aCons (dL (lDisp aNil)) aNil _ _
    walk_at "gs"

end
/-! what the top has written -/
theorem all_mk {l : PySem.W.OpenLaw} {w : World} {K : PySem.W.Frag} {h : Heap} {mg : Str → Option Value} {fa f0 f1 f2 f3 f4 f5 f6 f7 f8 f9 f10 f11 f12 f13 f14 f15 f16 : Addr} (X : K.In h) (G : h.Ns mainGlobals mg) (hfa : mg "law" = some (.ref fa))
    {od0 an0 : Option Addr} {sl0 : Array (Option Value)} {oc0 kV0 dc0 pm0 cd0 ct0 : Value}
    {od1 an1 : Option Addr} {sl1 : Array (Option Value)} {oc1 kV1 dc1 pm1 cd1 ct1 : Value}
    {od2 an2 : Option Addr} {sl2 : Array (Option Value)} {oc2 kV2 dc2 pm2 cd2 ct2 : Value}
    {od3 an3 : Option Addr} {sl3 : Array (Option Value)} {oc3 kV3 dc3 pm3 cd3 ct3 : Value}
    {od4 an4 : Option Addr} {sl4 : Array (Option Value)} {oc4 kV4 dc4 pm4 cd4 ct4 : Value}
    {od5 an5 : Option Addr} {sl5 : Array (Option Value)} {oc5 kV5 dc5 pm5 cd5 ct5 : Value}
    {od6 an6 : Option Addr} {sl6 : Array (Option Value)} {oc6 kV6 dc6 pm6 cd6 ct6 : Value}
    {od7 an7 : Option Addr} {sl7 : Array (Option Value)} {oc7 kV7 dc7 pm7 cd7 ct7 : Value}
    {od8 an8 : Option Addr} {sl8 : Array (Option Value)} {oc8 kV8 dc8 pm8 cd8 ct8 : Value}
    {od9 an9 : Option Addr} {sl9 : Array (Option Value)} {oc9 kV9 dc9 pm9 cd9 ct9 : Value}
    {od10 an10 : Option Addr} {sl10 : Array (Option Value)} {oc10 kV10 dc10 pm10 cd10 ct10 : Value}
    {od11 an11 : Option Addr} {sl11 : Array (Option Value)} {oc11 kV11 dc11 pm11 cd11 ct11 : Value}
    {od12 an12 : Option Addr} {sl12 : Array (Option Value)} {oc12 kV12 dc12 pm12 cd12 ct12 : Value}
    {od13 an13 : Option Addr} {sl13 : Array (Option Value)} {oc13 kV13 dc13 pm13 cd13 ct13 : Value}
    {od14 an14 : Option Addr} {sl14 : Array (Option Value)} {oc14 kV14 dc14 pm14 cd14 ct14 : Value}
    {od15 an15 : Option Addr} {sl15 : Array (Option Value)} {oc15 kV15 dc15 pm15 cd15 ct15 : Value}
    {od16 an16 : Option Addr} {sl16 : Array (Option Value)} {oc16 kV16 dc16 pm16 cd16 ct16 : Value}
    (a0 : PySem.W.nsIn K mainGlobals "_law_bag" = some (some (.ref f0)))
    (l0 : K.lookup f0 = some ⟨oc0, od0, .func (PySem.W.fnOf "_law_bag" "_law_bag" (defArgs s_bag) (defBody s_bag) (defScope s_bag) .none kV0 dc0 pm0 an0 cd0 ct0), sl0⟩)
    (c0 : PySem.W.codeIn K cd0 "_law_bag" = true)
    (k0 : PySem.W.keepIn K (.ref f0) = true)
    (a1 : PySem.W.nsIn K mainGlobals "_law_take" = some (some (.ref f1)))
    (l1 : K.lookup f1 = some ⟨oc1, od1, .func (PySem.W.fnOf "_law_take" "_law_take" (defArgs s_take) (defBody s_take) (defScope s_take) .none kV1 dc1 pm1 an1 cd1 ct1), sl1⟩)
    (c1 : PySem.W.codeIn K cd1 "_law_take" = true)
    (k1 : PySem.W.keepIn K (.ref f1) = true)
    (a2 : PySem.W.nsIn K mainGlobals "_law_of" = some (some (.ref f2)))
    (l2 : K.lookup f2 = some ⟨oc2, od2, .func (PySem.W.fnOf "_law_of" "_law_of" (defArgs s_of) (defBody s_of) (defScope s_of) .none kV2 dc2 pm2 an2 cd2 ct2), sl2⟩)
    (c2 : PySem.W.codeIn K cd2 "_law_of" = true)
    (k2 : PySem.W.keepIn K (.ref f2) = true)
    (a3 : PySem.W.nsIn K mainGlobals "_law_numbers" = some (some (.ref f3)))
    (l3 : K.lookup f3 = some ⟨oc3, od3, .func (PySem.W.fnOf "_law_numbers" "_law_numbers" (defArgs s_numbers) (defBody s_numbers) (defScope s_numbers) .none kV3 dc3 pm3 an3 cd3 ct3), sl3⟩)
    (c3 : PySem.W.codeIn K cd3 "_law_numbers" = true)
    (k3 : PySem.W.keepIn K (.ref f3) = true)
    (a4 : PySem.W.nsIn K mainGlobals "_law_lines" = some (some (.ref f4)))
    (l4 : K.lookup f4 = some ⟨oc4, od4, .func (PySem.W.fnOf "_law_lines" "_law_lines" (defArgs s_lines) (defBody s_lines) (defScope s_lines) .none kV4 dc4 pm4 an4 cd4 ct4), sl4⟩)
    (c4 : PySem.W.codeIn K cd4 "_law_lines" = true)
    (k4 : PySem.W.keepIn K (.ref f4) = true)
    (a5 : PySem.W.nsIn K mainGlobals "_width_of" = some (some (.ref f5)))
    (l5 : K.lookup f5 = some ⟨oc5, od5, .func (PySem.W.fnOf "_width_of" "_width_of" (defArgs s__width_of) (defBody s__width_of) (defScope s__width_of) .none kV5 dc5 pm5 an5 cd5 ct5), sl5⟩)
    (c5 : PySem.W.codeIn K cd5 "_width_of" = true)
    (k5 : PySem.W.keepIn K (.ref f5) = true)
    (a6 : PySem.W.nsIn K mainGlobals "_shortened" = some (some (.ref f6)))
    (l6 : K.lookup f6 = some ⟨oc6, od6, .func (PySem.W.fnOf "_shortened" "_shortened" (defArgs s__shortened) (defBody s__shortened) (defScope s__shortened) .none kV6 dc6 pm6 an6 cd6 ct6), sl6⟩)
    (c6 : PySem.W.codeIn K cd6 "_shortened" = true)
    (k6 : PySem.W.keepIn K (.ref f6) = true)
    (a7 : PySem.W.nsIn K mainGlobals "_cleared" = some (some (.ref f7)))
    (l7 : K.lookup f7 = some ⟨oc7, od7, .func (PySem.W.fnOf "_cleared" "_cleared" (defArgs s__cleared) (defBody s__cleared) (defScope s__cleared) .none kV7 dc7 pm7 an7 cd7 ct7), sl7⟩)
    (c7 : PySem.W.codeIn K cd7 "_cleared" = true)
    (k7 : PySem.W.keepIn K (.ref f7) = true)
    (a8 : PySem.W.nsIn K mainGlobals "_leading" = some (some (.ref f8)))
    (l8 : K.lookup f8 = some ⟨oc8, od8, .func (PySem.W.fnOf "_leading" "_leading" (defArgs s__leading) (defBody s__leading) (defScope s__leading) .none kV8 dc8 pm8 an8 cd8 ct8), sl8⟩)
    (c8 : PySem.W.codeIn K cd8 "_leading" = true)
    (k8 : PySem.W.keepIn K (.ref f8) = true)
    (a9 : PySem.W.nsIn K mainGlobals "_parted" = some (some (.ref f9)))
    (l9 : K.lookup f9 = some ⟨oc9, od9, .func (PySem.W.fnOf "_parted" "_parted" (defArgs s__parted) (defBody s__parted) (defScope s__parted) .none kV9 dc9 pm9 an9 cd9 ct9), sl9⟩)
    (c9 : PySem.W.codeIn K cd9 "_parted" = true)
    (k9 : PySem.W.keepIn K (.ref f9) = true)
    (a10 : PySem.W.nsIn K mainGlobals "identity" = some (some (.ref f10)))
    (l10 : K.lookup f10 = some ⟨oc10, od10, .func (PySem.W.fnOf "identity" "identity" (defArgs s_identity) (defBody s_identity) (defScope s_identity) .none kV10 dc10 pm10 an10 cd10 ct10), sl10⟩)
    (c10 : PySem.W.codeIn K cd10 "identity" = true)
    (k10 : PySem.W.keepIn K (.ref f10) = true)
    (a11 : PySem.W.nsIn K mainGlobals "_marked" = some (some (.ref f11)))
    (l11 : K.lookup f11 = some ⟨oc11, od11, .func (PySem.W.fnOf "_marked" "_marked" (defArgs s__marked) (defBody s__marked) (defScope s__marked) .none kV11 dc11 pm11 an11 cd11 ct11), sl11⟩)
    (c11 : PySem.W.codeIn K cd11 "_marked" = true)
    (k11 : PySem.W.keepIn K (.ref f11) = true)
    (a12 : PySem.W.nsIn K mainGlobals "kernel" = some (some (.ref f12)))
    (l12 : K.lookup f12 = some ⟨oc12, od12, .func (PySem.W.fnOf "kernel" "kernel" (defArgs s_kernel) (defBody s_kernel) (defScope s_kernel) .none kV12 dc12 pm12 an12 cd12 ct12), sl12⟩)
    (c12 : PySem.W.codeIn K cd12 "kernel" = true)
    (k12 : PySem.W.keepIn K (.ref f12) = true)
    (a13 : PySem.W.nsIn K mainGlobals "_law_divisor" = some (some (.ref f13)))
    (l13 : K.lookup f13 = some ⟨oc13, od13, .func (PySem.W.fnOf "_law_divisor" "_law_divisor" (defArgs s_divisor) (defBody s_divisor) (defScope s_divisor) .none kV13 dc13 pm13 an13 cd13 ct13), sl13⟩)
    (c13 : PySem.W.codeIn K cd13 "_law_divisor" = true)
    (k13 : PySem.W.keepIn K (.ref f13) = true)
    (a14 : PySem.W.nsIn K mainGlobals "_law_rank" = some (some (.ref f14)))
    (l14 : K.lookup f14 = some ⟨oc14, od14, .func (PySem.W.fnOf "_law_rank" "_law_rank" (defArgs s_lrank) (defBody s_lrank) (defScope s_lrank) .none kV14 dc14 pm14 an14 cd14 ct14), sl14⟩)
    (c14 : PySem.W.codeIn K cd14 "_law_rank" = true)
    (k14 : PySem.W.keepIn K (.ref f14) = true)
    (a15 : PySem.W.nsIn K mainGlobals "_law_same" = some (some (.ref f15)))
    (l15 : K.lookup f15 = some ⟨oc15, od15, .func (PySem.W.fnOf "_law_same" "_law_same" (defArgs s_same) (defBody s_same) (defScope s_same) .none kV15 dc15 pm15 an15 cd15 ct15), sl15⟩)
    (c15 : PySem.W.codeIn K cd15 "_law_same" = true)
    (k15 : PySem.W.keepIn K (.ref f15) = true)
    (a16 : PySem.W.nsIn K mainGlobals "law" = some (some (.ref f16)))
    (l16 : K.lookup f16 = some ⟨oc16, od16, .func (PySem.W.fnOf "law" "law" (defArgs s_law) (defBody s_law) (defScope s_law) .none kV16 dc16 pm16 an16 cd16 ct16), sl16⟩)
    (c16 : PySem.W.codeIn K cd16 "law" = true)
    (k16 : PySem.W.keepIn K (.ref f16) = true)
    (z0 : PySem.W.nsIn K mainGlobals "abs" = some none)
    (z1 : PySem.W.nsIn K mainGlobals "all" = some none)
    (z2 : PySem.W.nsIn K mainGlobals "bool" = some none)
    (z3 : PySem.W.nsIn K mainGlobals "int" = some none)
    (z4 : PySem.W.nsIn K mainGlobals "isinstance" = some none)
    (z5 : PySem.W.nsIn K mainGlobals "len" = some none)
    (z6 : PySem.W.nsIn K mainGlobals "list" = some none)
    (z7 : PySem.W.nsIn K mainGlobals "max" = some none)
    (z8 : PySem.W.nsIn K mainGlobals "range" = some none)
    (z9 : PySem.W.nsIn K mainGlobals "reversed" = some none)
    (z10 : PySem.W.nsIn K mainGlobals "str" = some none)
    (z11 : PySem.W.nsIn K mainGlobals "sum" = some none)
    (z12 : PySem.W.nsIn K mainGlobals "tuple" = some none)
    (z13 : PySem.W.nsIn K mainGlobals "zip" = some none)
    (y0 : PySem.W.nsIn K mainGlobals "gcd" = some (some (.builtin "math.gcd")))
    : ∃ fd : FuncData, (∀ (s : Shared) (v : Value), BindsTo s fd ⟨[v], []⟩ [("_law_script", v)]) ∧ ∀ base : Heap, K.In base → base.Ns mainGlobals mg → FnOk l.prog w K mg base CX0 5 fa fd ["_law_script"] (spLaw K) := by
  have e := hfa.symm.trans (PySem.W.mg_of X G a16)
  cases e
  let Z : Fc K mg := {
    z_abs := PySem.W.mg_none_of X G z0,
    z_all := PySem.W.mg_none_of X G z1,
    z_bool := PySem.W.mg_none_of X G z2,
    z_int := PySem.W.mg_none_of X G z3,
    z_isinstance := PySem.W.mg_none_of X G z4,
    z_len := PySem.W.mg_none_of X G z5,
    z_list := PySem.W.mg_none_of X G z6,
    z_max := PySem.W.mg_none_of X G z7,
    z_range := PySem.W.mg_none_of X G z8,
    z_reversed := PySem.W.mg_none_of X G z9,
    z_str := PySem.W.mg_none_of X G z10,
    z_sum := PySem.W.mg_none_of X G z11,
    z_tuple := PySem.W.mg_none_of X G z12,
    z_zip := PySem.W.mg_none_of X G z13,
    m_gcd := PySem.W.mg_of X G y0,
    a_bag := f0,
    fd_bag := _,
    F_bag := fun_mk (st := s_bag) l0 c0 k0,
    g_bag := PySem.W.mg_of X G a0,
    b_bag := (fun_mk (st := s_bag) l0 c0 k0).binds (ps := P_bag) fun _ _ _ _ _ _ us hl => match us, hl with | [_], _ => rfl,
    a_take := f1,
    fd_take := _,
    F_take := fun_mk (st := s_take) l1 c1 k1,
    g_take := PySem.W.mg_of X G a1,
    b_take := (fun_mk (st := s_take) l1 c1 k1).binds (ps := P_take) fun _ _ _ _ _ _ us hl => match us, hl with | [_, _], _ => rfl,
    a_of := f2,
    fd_of := _,
    F_of := fun_mk (st := s_of) l2 c2 k2,
    g_of := PySem.W.mg_of X G a2,
    b_of := (fun_mk (st := s_of) l2 c2 k2).binds (ps := P_of) fun _ _ _ _ _ _ us hl => match us, hl with | [_, _], _ => rfl,
    a_numbers := f3,
    fd_numbers := _,
    F_numbers := fun_mk (st := s_numbers) l3 c3 k3,
    g_numbers := PySem.W.mg_of X G a3,
    b_numbers := (fun_mk (st := s_numbers) l3 c3 k3).binds (ps := P_numbers) fun _ _ _ _ _ _ us hl => match us, hl with | [_, _], _ => rfl,
    a_lines := f4,
    fd_lines := _,
    F_lines := fun_mk (st := s_lines) l4 c4 k4,
    g_lines := PySem.W.mg_of X G a4,
    b_lines := (fun_mk (st := s_lines) l4 c4 k4).binds (ps := P_lines) fun _ _ _ _ _ _ us hl => match us, hl with | [_, _, _], _ => rfl,
    a__width_of := f5,
    fd__width_of := _,
    F__width_of := fun_mk (st := s__width_of) l5 c5 k5,
    g__width_of := PySem.W.mg_of X G a5,
    b__width_of := (fun_mk (st := s__width_of) l5 c5 k5).binds (ps := P__width_of) fun _ _ _ _ _ _ us hl => match us, hl with | [_], _ => rfl,
    a__shortened := f6,
    fd__shortened := _,
    F__shortened := fun_mk (st := s__shortened) l6 c6 k6,
    g__shortened := PySem.W.mg_of X G a6,
    b__shortened := (fun_mk (st := s__shortened) l6 c6 k6).binds (ps := P__shortened) fun _ _ _ _ _ _ us hl => match us, hl with | [_], _ => rfl,
    a__cleared := f7,
    fd__cleared := _,
    F__cleared := fun_mk (st := s__cleared) l7 c7 k7,
    g__cleared := PySem.W.mg_of X G a7,
    b__cleared := (fun_mk (st := s__cleared) l7 c7 k7).binds (ps := P__cleared) fun _ _ _ _ _ _ us hl => match us, hl with | [_, _], _ => rfl,
    a__leading := f8,
    fd__leading := _,
    F__leading := fun_mk (st := s__leading) l8 c8 k8,
    g__leading := PySem.W.mg_of X G a8,
    b__leading := (fun_mk (st := s__leading) l8 c8 k8).binds (ps := P__leading) fun _ _ _ _ _ _ us hl => match us, hl with | [_, _], _ => rfl,
    a__parted := f9,
    fd__parted := _,
    F__parted := fun_mk (st := s__parted) l9 c9 k9,
    g__parted := PySem.W.mg_of X G a9,
    b__parted := (fun_mk (st := s__parted) l9 c9 k9).binds (ps := P__parted) fun _ _ _ _ _ _ us hl => match us, hl with | [_, _], _ => rfl,
    a_identity := f10,
    fd_identity := _,
    F_identity := fun_mk (st := s_identity) l10 c10 k10,
    g_identity := PySem.W.mg_of X G a10,
    b_identity := (fun_mk (st := s_identity) l10 c10 k10).binds (ps := P_identity) fun _ _ _ _ _ _ us hl => match us, hl with | [_], _ => rfl,
    a__marked := f11,
    fd__marked := _,
    F__marked := fun_mk (st := s__marked) l11 c11 k11,
    g__marked := PySem.W.mg_of X G a11,
    b__marked := (fun_mk (st := s__marked) l11 c11 k11).binds (ps := P__marked) fun _ _ _ _ _ _ us hl => match us, hl with | [_], _ => rfl,
    a_kernel := f12,
    fd_kernel := _,
    F_kernel := fun_mk (st := s_kernel) l12 c12 k12,
    g_kernel := PySem.W.mg_of X G a12,
    b_kernel := (fun_mk (st := s_kernel) l12 c12 k12).binds (ps := P_kernel) fun _ _ _ _ _ _ us hl => match us, hl with | [_], _ => rfl,
    a_divisor := f13,
    fd_divisor := _,
    F_divisor := fun_mk (st := s_divisor) l13 c13 k13,
    g_divisor := PySem.W.mg_of X G a13,
    b_divisor := (fun_mk (st := s_divisor) l13 c13 k13).binds (ps := P_divisor) fun _ _ _ _ _ _ us hl => match us, hl with | [_], _ => rfl,
    a_lrank := f14,
    fd_lrank := _,
    F_lrank := fun_mk (st := s_lrank) l14 c14 k14,
    g_lrank := PySem.W.mg_of X G a14,
    b_lrank := (fun_mk (st := s_lrank) l14 c14 k14).binds (ps := P_lrank) fun _ _ _ _ _ _ us hl => match us, hl with | [_], _ => rfl,
    a_same := f15,
    fd_same := _,
    F_same := fun_mk (st := s_same) l15 c15 k15,
    g_same := PySem.W.mg_of X G a15,
    b_same := (fun_mk (st := s_same) l15 c15 k15).binds (ps := P_same) fun _ _ _ _ _ _ us hl => match us, hl with | [_, _], _ => rfl,
    k_kernel_rows := kb_mk (fun_mk (st := s_kernel) l12 c12 k12) 0 1 [0] (by decide) fun _ _ _ _ _ _ us ws h1 h2 => match us, ws, h1, h2 with | [], [_], _, _ => rfl }
  exact ⟨_, fun s v => .of_eq rfl, fun base _ _ => ok_law Z (fun_mk (st := s_law) l16 c16 k16)⟩
end Pf
open PySem PySem.W PyProof.Rows
set_option maxRecDepth 100000 in
set_option maxHeartbeats 0 in
theorem PySem.Challenge.cw_twinbegun_k15_combinations_that_are_zero_holds : PySem.Challenge.rw_twinbegun_k15_combinations_that_are_zero.Holds := by
  w_on; o_law; k_head; (case hw => w_witness2)
  k_fill
  refine L2.walk_of (l := PySem.Challenge.rw_twinbegun_k15_combinations_that_are_zero) (n := 63) (k := 5) (x := "_law_script") (CX := fun _ => L2.CX0) (sp := fun w => Pf.spLaw _) rfl (by decide) rfl ⟨rfl, by decide, by decide⟩ (fun w h Y => PySem.W.kIn_of Y) ?F (fun _ _ a ns hl _ hS => ⟨a, ns, rfl, hS, hl, fun _ => rfl⟩) (fun _ _ _ _ _ h => h)
  case F =>
    intro w mg fa h KX G hmg
    refine' Pf.all_mk KX G hmg ?a0 ?l0 ?c0 ?k0 ?a1 ?l1 ?c1 ?k1 ?a2 ?l2 ?c2 ?k2 ?a3 ?l3 ?c3 ?k3 ?a4 ?l4 ?c4 ?k4 ?a5 ?l5 ?c5 ?k5 ?a6 ?l6 ?c6 ?k6 ?a7 ?l7 ?c7 ?k7 ?a8 ?l8 ?c8 ?k8 ?a9 ?l9 ?c9 ?k9 ?a10 ?l10 ?c10 ?k10 ?a11 ?l11 ?c11 ?k11 ?a12 ?l12 ?c12 ?k12 ?a13 ?l13 ?c13 ?k13 ?a14 ?l14 ?c14 ?k14 ?a15 ?l15 ?c15 ?k15 ?a16 ?l16 ?c16 ?k16 ?z0 ?z1 ?z2 ?z3 ?z4 ?z5 ?z6 ?z7 ?z8 ?z9 ?z10 ?z11 ?z12 ?z13 ?y0
    (case a0 => k_is); (case l0 => k_is); (case c0 => k_is); (case k0 => k_is); (case a1 => k_is); (case l1 => k_is); (case c1 => k_is); (case k1 => k_is); (case a2 => k_is); (case l2 => k_is); (case c2 => k_is); (case k2 => k_is); (case a3 => k_is); (case l3 => k_is); (case c3 => k_is); (case k3 => k_is); (case a4 => k_is); (case l4 => k_is); (case c4 => k_is); (case k4 => k_is); (case a5 => k_is); (case l5 => k_is); (case c5 => k_is); (case k5 => k_is); (case a6 => k_is); (case l6 => k_is); (case c6 => k_is); (case k6 => k_is); (case a7 => k_is); (case l7 => k_is); (case c7 => k_is); (case k7 => k_is); (case a8 => k_is); (case l8 => k_is); (case c8 => k_is); (case k8 => k_is); (case a9 => k_is); (case l9 => k_is); (case c9 => k_is); (case k9 => k_is); (case a10 => k_is); (case l10 => k_is); (case c10 => k_is); (case k10 => k_is); (case a11 => k_is); (case l11 => k_is); (case c11 => k_is); (case k11 => k_is); (case a12 => k_is); (case l12 => k_is); (case c12 => k_is); (case k12 => k_is); (case a13 => k_is); (case l13 => k_is); (case c13 => k_is); (case k13 => k_is); (case a14 => k_is); (case l14 => k_is); (case c14 => k_is); (case k14 => k_is); (case a15 => k_is); (case l15 => k_is); (case c15 => k_is); (case k15 => k_is); (case a16 => k_is); (case l16 => k_is); (case c16 => k_is); (case k16 => k_is); (case z0 => k_is); (case z1 => k_is); (case z2 => k_is); (case z3 => k_is); (case z4 => k_is); (case z5 => k_is); (case z6 => k_is); (case z7 => k_is); (case z8 => k_is); (case z9 => k_is); (case z10 => k_is); (case z11 => k_is); (case z12 => k_is); (case z13 => k_is); (case y0 => k_is)
