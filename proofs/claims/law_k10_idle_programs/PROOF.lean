import PyProof.Rows.All
import Wide.All
import OpenK.AllK
import Wide.FinOn
import HandS.ForMost
import HandS.IsInst
import HandS.Zip
import HandS.Walk
import HandS.Deep
import HandS.Flow
import HandS.Style
import HandS.ExcInit
import HandS.Lambda
import HandS.EndTab
import HandS.Star
import HandS.Evl
import HandS.Dict
import HandS.DictTup
import HandS.Property
import HandS.TupAny
import HandS.More
import HandS.ClsMeth
import HandS.Wide
import HandS.Gcd
import HandS.RevRange
import HandS.TupMul
import HandS.Conv
import HandS.DictComp
import HandS.Defaults
import KE.KUnpackStar
import HandS.WordsExc
import HandS.ExcField
import KE.KTryMore
import PyProof.CollectWalk
import PyProof.ListRange
import HandS.Small
import KE.KExcInit
import PyProof.ExcBaseAll.LookupError
import PyProof.ExcBaseAll.IndexError
import KE.GoesEnum
import HandS.EndOwn
import PySem.Challenge.RW_twinbegun_k10_idle_programs
set_option Elab.async false
set_option linter.all false
set_option maxRecDepth 100000
set_option maxHeartbeats 4000000
/-! Data in place of heaps: a def's run told by what its values hold. -/
namespace DL
open PySem PySem.Spec PyProof.Rows L2

/-- whose bag is used; how the code objects are named that a table tells of -/
structure Bg where
  bag : Option Addr
  nm : Addr → Str := fun _ => Str.empty
  tb : List Addr := []
/-- a lambda of the text: its name's place, its parameters, its body, its names -/
structure Lam where
  qual : Str
  params : Arguments
  body : Expr
  scope : Scope
  df : Bool
  fv : List Str
/-- the lambda's names: N the captured ones -/
structure LamN (L : Lam) (N : List Str) : Prop where
  nd : N.Nodup
  kind : L.scope.kind = .function
  co : L.scope.isCoroutine = false
  gen : L.scope.isGenerator = false
  cell : ∀ y ∈ L.scope.names, y.2 ≠ .cell
  to : ∀ y, (y, NameKind.free) ∈ L.scope.names → y ∈ N
  fr : ∀ y ∈ N, L.scope.names.lookup y = some .free
def lamNB (L : Lam) (N : List Str) : Bool :=
  decide N.Nodup && (decide (L.scope.kind = .function) && (!L.scope.isCoroutine && (!L.scope.isGenerator && (L.scope.names.all (fun y => !decide (y.2 = .cell) && (!decide (y.2 = .free) || decide (y.1 ∈ N))) && N.all fun y => decide (L.scope.names.lookup y = some .free)))))
theorem lamN_by {L : Lam} {N : List Str} (h : lamNB L N = true) : LamN L N := by
  unfold lamNB at h
  simp only [Bool.and_eq_true, Bool.or_eq_true, Bool.not_eq_true', decide_eq_true_eq, decide_eq_false_iff_not, List.all_eq_true] at h
  obtain ⟨h1, h2, h3, h4, h5, h6⟩ := h
  refine ⟨h1, h2, h3, h4, fun y hy => (h5 y hy).1, fun y hy => ?_, h6⟩
  rcases (h5 _ hy).2 with z | z
  · exact absurd rfl z
  · exact z
/-- a closure κ of the lambda: its free names' cells, each its own -/
structure KOk (L : Lam) (κ : List (Str × Addr)) : Prop where
  nm : LamN L L.fv
  fr : ∀ x c, κ.lookup x = some c → (x, NameKind.free) ∈ L.scope.names
  inj : ∀ x y c, κ.lookup x = some c → κ.lookup y = some c → x = y
  has : ∀ y ∈ L.scope.names, y.2 = .free → ∃ c, κ.lookup y.1 = some c
def dfV : Option Addr → Value
  | some T => .ref T
  | none => .none
/-- the object of such a lambda, made with the closure κ, its code at c' -/
def lamO (f : Addr) (L : Lam) (κ : List (Str × Addr)) (dT : Option Addr) (c' : Addr) : HO := .ext fun h => ∃ (pm ctv : Value), h.get? f = some
  { data := .func { params := L.params, name := "<lambda>", scope := L.scope, qualname := L.qual, body := .expr L.body, closure := κ, globals := mainGlobals, kwdefaults := .none, defaults := dfV dT, pyModule := pm, doc := .none, annotations := none, closureTuple := ctv, code := .ref c', builtins := builtinsNs }, cls := .type "function" }
/-- a cell that stands still -/
def cellO (c : Addr) (o : Obj) : HO := .ext fun h => h.get? c = some o
/-- an exception of the class at C, its dict at dx -/
def exV (a C dx : Addr) : HO := .ext fun h => ∃ oe : Obj, h.get? a = some oe ∧ oe.cls = .ref C ∧ oe.dict = some dx ∧ ∃ fv : Array Value, oe.data = .fields fv
def notTbl (o : HO) : Prop := ∀ ps, o ≠ .tbl ps
theorem notTbl.lst {xs : List V} : notTbl (.lst xs) := fun _ z => by cases z
theorem notTbl.dK {xs : List (Key × V)} : notTbl (.dK xs) := fun _ z => by cases z
theorem notTbl.dT {xs : List (List Key × V)} : notTbl (.dT xs) := fun _ z => by cases z
theorem notTbl.ins {C dx : Addr} {xs : List (Str × V)} : notTbl (.ins C dx xs) := fun _ z => by cases z
def notExt (o : HO) : Prop := ∀ φ, o ≠ .ext φ
theorem notExt.lst {xs : List V} : notExt (.lst xs) := fun _ z => by cases z
theorem notExt.dK {xs : List (Key × V)} : notExt (.dK xs) := fun _ z => by cases z
theorem notExt.dT {xs : List (List Key × V)} : notExt (.dT xs) := fun _ z => by cases z
theorem notExt.ins {C dx : Addr} {xs : List (Str × V)} : notExt (.ins C dx xs) := fun _ z => by cases z
theorem notExt.tbl {ps : Array Value} : notExt (.tbl ps) := fun _ z => by cases z
/-- what a value holds -/
inductive Dt where
  | non | bl (k : Bool) | int (i : Int) | str (x : Str)
  | lst (xs : List Dt) | tup (xs : List Dt)
  | ins (C : Addr) (fs : List (Str × Dt))
  | dT (kvs : List (List Key × Dt))
  | dK (kvs : List (Str × Dt))
  /-- a thing of which only the place is said -/
  | ptr (a : Addr)
  | bag
  /-- an exception of the class at C -/
  | exc (C : Addr) (fs : List (Str × Dt))
  /-- a lambda, made with the closure κ; one whose captured names hold ds -/
  | lam (L : Lam) (κ : List (Str × Addr))
  | clo (L : Lam) (ds : List (Str × Dt))

/-- entries by text keys -/
def keysOf (vs : List (Str × V)) : List (Key × V) := vs.map fun p => (Sum.inr p.1, p.2)
mutual
inductive Rep (b : Bg) (F : Hp) : V → Dt → Prop
  | non : Rep b F .non .non
  | bl (k : Bool) : Rep b F (.bl k) (.bl k)
  | int (i : Int) : Rep b F (.int i) (.int i)
  | str (x : Str) : Rep b F (.str x) (.str x)
  | lst {a : Addr} {vs : List V} {xs : List Dt} : F a = some (.lst vs) → RepL b F vs xs → Rep b F (.ref a) (.lst xs)
  | tup {a : Addr} {vs : List V} {xs : List Dt} : F a = some (.tup vs) → RepL b F vs xs → Rep b F (.ref a) (.tup xs)
  | ins {a C dx : Addr} {vs : List (Str × V)} {fs : List (Str × Dt)} : F a = some (.ins C dx vs) → RepF b F vs fs → Rep b F (.ref a) (.ins C fs)
  | dT {a : Addr} {vs : List (List Key × V)} {kvs : List (List Key × Dt)} : F a = some (.dT vs) → RepD b F vs kvs → Rep b F (.ref a) (.dT kvs)
  | dK {a : Addr} {vs : List (Str × V)} {kvs : List (Str × Dt)} : F a = some (.dK (keysOf vs)) → RepF b F vs kvs → Rep b F (.ref a) (.dK kvs)
  | ptr (a : Addr) : Rep b F (.ref a) (.ptr a)
  | bag {a : Addr} : b.bag = some a → Rep b F (.ref a) .bag
  | exc {a C dx : Addr} {vs : List (Str × V)} {fs : List (Str × Dt)} : F a = some (exV a C dx) → F dx = some (.xd vs) → RepF b F vs fs → Rep b F (.ref a) (.exc C fs)
  | lam {f c' : Addr} {L : Lam} {κ : List (Str × Addr)} {dT : Option Addr} : F f = some (lamO f L κ dT c') → F c' = some (LamX.CodeO c' L.qual) → KOk L κ → dT.isSome = L.df → (∀ T, dT = some T → ∃ z, F T = some (.tup [z])) → Rep b F (.ref f) (.lam L κ)
  | clo {f c' : Addr} {L : Lam} {κ : List (Str × Addr)} {dT : Option Addr} {vs : List (Str × V)} {ds : List (Str × Dt)} : F f = some (lamO f L κ dT c') → F c' = some (LamX.CodeO c' L.qual) → KOk L κ → dT.isSome = L.df → (∀ T, dT = some T → ∃ z, F T = some (.tup [z])) →
      (∀ p, p ∈ vs → ∃ (c : Addr) (o : Obj) (u : Value), κ.lookup p.1 = some c ∧ F c = some (cellO c o) ∧ o.data = .cell (some u) ∧ RelV p.2 u) → RepF b F vs ds → Rep b F (.ref f) (.clo L ds)
inductive RepL (b : Bg) (F : Hp) : List V → List Dt → Prop
  | nil : RepL b F [] []
  | cons {v : V} {vs : List V} {d : Dt} {ds : List Dt} : Rep b F v d → RepL b F vs ds → RepL b F (v :: vs) (d :: ds)
inductive RepF (b : Bg) (F : Hp) : List (Str × V) → List (Str × Dt) → Prop
  | nil : RepF b F [] []
  | cons {n : Str} {v : V} {vs : List (Str × V)} {d : Dt} {ds : List (Str × Dt)} : Rep b F v d → RepF b F vs ds → RepF b F ((n, v) :: vs) ((n, d) :: ds)
inductive RepD (b : Bg) (F : Hp) : List (List Key × V) → List (List Key × Dt) → Prop
  | nil : RepD b F [] []
  | cons {n : List Key} {v : V} {vs : List (List Key × V)} {d : Dt} {ds : List (List Key × Dt)} : Rep b F v d → RepD b F vs ds → RepD b F ((n, v) :: vs) ((n, d) :: ds)
end
def Sub (F F' : Hp) : Prop := ∀ a o, F a = some o → F' a = some o
theorem Sub.refl (F : Hp) : Sub F F := fun _ _ h => h
theorem Sub.trans {F F' F'' : Hp} (a : Sub F F') (c : Sub F' F'') : Sub F F'' := fun x o h => c x o (a x o h)
section
variable {b : Bg} {F F' : Hp}
mutual
theorem Rep.mono (s : Sub F F') : ∀ {d : Dt} {v : V}, Rep b F v d → Rep b F' v d
  | .non, _, h => by cases h; exact .non
  | .bl _, _, h => by cases h; exact .bl _
  | .int _, _, h => by cases h; exact .int _
  | .str _, _, h => by cases h; exact .str _
  | .lst xs, _, h => by
    cases h with
    | lst e r => exact .lst (s _ _ e) (RepL.mono s r)
  | .tup xs, _, h => by
    cases h with
    | tup e r => exact .tup (s _ _ e) (RepL.mono s r)
  | .ins C fs, _, h => by
    cases h with
    | ins e r => exact .ins (s _ _ e) (RepF.mono s r)
  | .dT kvs, _, h => by
    cases h with
    | dT e r => exact .dT (s _ _ e) (RepD.mono s r)
  | .dK kvs, _, h => by
    cases h with
    | dK e r => exact .dK (s _ _ e) (RepF.mono s r)
  | .ptr _, _, h => by cases h; exact .ptr _
  | .bag, _, h => by
    cases h with
    | bag e => exact .bag e
  | .exc C fs, _, h => by
    cases h with
    | exc e e2 r => exact .exc (s _ _ e) (s _ _ e2) (RepF.mono s r)
  | .lam L κ, _, h => by
    cases h with
    | lam e e2 k kd e3 => exact .lam (s _ _ e) (s _ _ e2) k kd fun T q => (e3 T q).imp fun z hz => s _ _ hz
  | .clo L ds, _, h => by
    cases h with
    | clo e e2 k kd e3 e4 r => exact .clo (s _ _ e) (s _ _ e2) k kd (fun T q => (e3 T q).imp fun z hz => s _ _ hz) (fun p hp => by
        obtain ⟨c, o, u, h1, h2, h3⟩ := e4 p hp
        exact ⟨c, o, u, h1, s _ _ h2, h3⟩) (RepF.mono s r)
theorem RepL.mono (s : Sub F F') : ∀ {ds : List Dt} {vs : List V}, RepL b F vs ds → RepL b F' vs ds
  | [], _, h => by cases h; exact .nil
  | d :: ds, _, h => by
    cases h with
    | cons r t => exact .cons (Rep.mono s r) (RepL.mono s t)
theorem RepF.mono (s : Sub F F') : ∀ {ds : List (Str × Dt)} {vs : List (Str × V)}, RepF b F vs ds → RepF b F' vs ds
  | [], _, h => by cases h; exact .nil
  | (n, d) :: ds, _, h => by
    cases h with
    | cons r t => exact .cons (Rep.mono s r) (RepF.mono s t)
theorem RepD.mono (s : Sub F F') : ∀ {ds : List (List Key × Dt)} {vs : List (List Key × V)}, RepD b F vs ds → RepD b F' vs ds
  | [], _, h => by cases h; exact .nil
  | (n, d) :: ds, _, h => by
    cases h with
    | cons r t => exact .cons (Rep.mono s r) (RepD.mono s t)
end
/-- an object of the heap holds a list, a dict, an instance -/
inductive RepO (b : Bg) (F : Hp) : HO → Dt → Prop
  | lst {vs : List V} {xs : List Dt} : RepL b F vs xs → RepO b F (.lst vs) (.lst xs)
  | ins {C dx : Addr} {vs : List (Str × V)} {fs : List (Str × Dt)} : RepF b F vs fs → RepO b F (.ins C dx vs) (.ins C fs)
  | dT {vs : List (List Key × V)} {kvs : List (List Key × Dt)} : RepD b F vs kvs → RepO b F (.dT vs) (.dT kvs)
  | dK {vs : List (Str × V)} {kvs : List (Str × Dt)} : RepF b F vs kvs → RepO b F (.dK (keysOf vs)) (.dK kvs)
theorem RepO.rep {a : Addr} {u : HO} {d : Dt} (h : F a = some u) (r : RepO b F u d) : Rep b F (.ref a) d := by
  cases r with
  | lst r => exact .lst h r
  | ins r => exact .ins h r
  | dT r => exact .dT h r
  | dK r => exact .dK h r
theorem RepO.nt {u : HO} {d : Dt} (r : RepO b F u d) : notTbl u := by
  cases r with
  | lst r => exact .lst
  | ins r => exact .ins
  | dT r => exact .dT
  | dK r => exact .dK
theorem RepO.ne {u : HO} {d : Dt} (r : RepO b F u d) : notExt u := by
  cases r with
  | lst r => exact fun _ z => by cases z
  | ins r => exact fun _ z => by cases z
  | dT r => exact fun _ z => by cases z
  | dK r => exact fun _ z => by cases z
theorem RepO.mono (s : Sub F F') {u : HO} {d : Dt} (r : RepO b F u d) : RepO b F' u d := by
  cases r with
  | lst r => exact .lst (r.mono s)
  | ins r => exact .ins (r.mono s)
  | dT r => exact .dT (r.mono s)
  | dK r => exact .dK (r.mono s)
theorem RepL.length : ∀ {ds : List Dt} {vs : List V}, RepL b F vs ds → vs.length = ds.length
  | [], _, h => by cases h; rfl
  | d :: ds, _, h => by
    cases h with
    | cons r t => exact congrArg (· + 1) (RepL.length t)
theorem RepL.get : ∀ {ds : List Dt} {vs : List V} {i : Nat} {v : V}, RepL b F vs ds → vs[i]? = some v → ∃ d, ds[i]? = some d ∧ Rep b F v d
  | _, _, _, _, .nil, e => by simp at e
  | _, _, 0, _, .cons r _, e => by simp at e; subst e; exact ⟨_, rfl, r⟩
  | _, _, i + 1, v, .cons _ t, e => by
    obtain ⟨d, h1, h2⟩ := RepL.get (i := i) (v := v) t (by simpa using e)
    exact ⟨d, by simpa using h1, h2⟩
theorem RepL.get' : ∀ {ds : List Dt} {vs : List V} {i : Nat} {d : Dt}, RepL b F vs ds → ds[i]? = some d → ∃ v, vs[i]? = some v ∧ Rep b F v d
  | _, _, _, _, .nil, e => by simp at e
  | _, _, 0, _, .cons r _, e => by simp at e; subst e; exact ⟨_, rfl, r⟩
  | _, _, i + 1, v, .cons _ t, e => by
    obtain ⟨d, h1, h2⟩ := RepL.get' (i := i) t (by simpa using e)
    exact ⟨d, by simpa using h1, h2⟩
theorem RepL.append : ∀ {xs ys : List Dt} {vs ws : List V}, RepL b F vs xs → RepL b F ws ys → RepL b F (vs ++ ws) (xs ++ ys)
  | _, _, _, _, .nil, s => s
  | _, _, _, _, .cons r t, s => .cons r (RepL.append t s)
theorem RepL.take : ∀ {xs : List Dt} {vs : List V} (n : Nat), RepL b F vs xs → RepL b F (vs.take n) (xs.take n)
  | _, _, 0, _ => .nil
  | _, _, _ + 1, .nil => .nil
  | _, _, n + 1, .cons r t => .cons r (RepL.take n t)
theorem RepL.drop : ∀ {xs : List Dt} {vs : List V} (n : Nat), RepL b F vs xs → RepL b F (vs.drop n) (xs.drop n)
  | _, _, 0, r => r
  | _, _, _ + 1, .nil => .nil
  | _, _, n + 1, .cons _ t => RepL.drop n t
theorem RepF.look : ∀ {ds : List (Str × Dt)} {vs : List (Str × V)} {f : Str} {d : Dt}, RepF b F vs ds → ds.lookup f = some d → ∃ v, vs.lookup f = some v ∧ Rep b F v d
  | _, _, _, _, .nil, e => by simp at e
  | _, _, f, d, .cons (n := n) r t, e => by
    rw [List.lookup_cons] at e ⊢
    cases q : f == n with
    | true =>
      rw [q] at e
      exact ⟨_, rfl, by cases e; exact r⟩
    | false =>
      rw [q] at e
      exact RepF.look t e
theorem RepF.no : ∀ {ds : List (Str × Dt)} {vs : List (Str × V)} {f : Str}, RepF b F vs ds → ds.lookup f = none → vs.lookup f = none
  | _, _, _, .nil, e => rfl
  | _, _, f, .cons (n := n) r t, e => by
    rw [List.lookup_cons] at e ⊢
    cases q : f == n with
    | true =>
      rw [q] at e
      cases e
    | false =>
      rw [q] at e
      exact RepF.no t e
end
/-! ### the bag, growth -/
def BagOk (F H : Hp) : Option Addr → Prop
  | none => True
  | some a => F a = none ∧ ∃ (c : Addr) (cs : List Int) (i : Nat) (v m k : Int), F c = some (.lst (cs.map V.int)) ∧ H a = some (.lst [.ref c, .int i, .int v, .int m, .int k]) ∧ 0 ≤ m ∧ m < 2147483563 ∧ cs.length ≤ 63
def NoT (F : Hp) : Prop := ∀ a o, F a = some o → notTbl o
/-- the tables tell of code objects of their own name -/
def TabsOk (b : Bg) (H : Hp) : Prop := ∀ P, P ∈ b.tb → LamX.TabS H P (b.nm P)
def Ok (b : Bg) (F H : Hp) : Prop := Sub F H ∧ BagOk F H b.bag ∧ NoT F ∧ TabsOk b H
structure Ext (b : Bg) (F H F' H' : Hp) : Prop where
  keep : ∀ a o, b.bag ≠ some a → H a = some o → notTbl o → H' a = some o
  grow : Sub F F'
  sub : Sub F' H'
  new : ∀ a o, H a = some o → notExt o → F' a = F a
  bag : BagOk F' H' b.bag
  nt : NoT F'
  tbl : ∀ a ps, H a = some (.tbl ps) → ∃ qs, H' a = some (.tbl qs)
  tabs : TabsOk b H'
  cell : ∀ a c r, b.bag = some a → H a = some (.lst (.ref c :: r)) → ∃ c' r', H' a = some (.lst (.ref c' :: r')) ∧ (c' = c ∨ H c' = none)
section
variable {b : Bg} {F H F' H' F'' H'' : Hp} {p : Addr} {o : HO}
theorem Ext.refl (k : Ok b F H) : Ext b F H F H := ⟨fun _ _ _ h _ => h, Sub.refl F, k.1, fun _ _ _ _ => rfl, k.2.1, k.2.2.1, fun _ ps h => ⟨ps, h⟩, k.2.2.2, fun _ c r _ h => ⟨c, r, h, .inl rfl⟩⟩
theorem Ext.ok (x : Ext b F H F' H') : Ok b F' H' := ⟨x.sub, x.bag, x.nt, x.tabs⟩
theorem Ext.trans (x : Ext b F H F' H') (y : Ext b F' H' F'' H'') : Ext b F H F'' H'' where
  keep := fun a o n h t => y.keep a o n (x.keep a o n h t) t
  tbl := fun a ps h => by
    obtain ⟨qs, h2⟩ := x.tbl a ps h
    exact y.tbl a qs h2
  tabs := y.tabs
  grow := x.grow.trans y.grow
  sub := y.sub
  new := fun a o h ne => by
    by_cases n : b.bag = some a
    · have q := x.bag
      rw [n] at q
      obtain ⟨q0, _, _, _, _, _, _, _, q1, _⟩ := q
      rw [y.new a _ q1 .lst, x.new a o h ne]
    · cases o with
      | tbl ps =>
        obtain ⟨qs, h2⟩ := x.tbl a ps h
        rw [y.new a _ h2 .tbl, x.new a _ h ne]
      | _ => rw [y.new a _ (x.keep a _ n h fun _ z => by cases z) ne, x.new a _ h ne]
  bag := y.bag
  nt := y.nt
  cell := fun a c r e h => by
    obtain ⟨c1, r1, h1, q1⟩ := x.cell a c r e h
    obtain ⟨c2, r2, h2, q2⟩ := y.cell a c1 r1 e h1
    refine ⟨c2, r2, h2, ?_⟩
    rcases q2 with q2 | q2
    · rw [q2]; exact q1
    · right
      cases z : H c2 with
      | none => rfl
      | some o =>
        by_cases n : b.bag = some c2
        · have q := x.bag
          rw [n] at q
          obtain ⟨_, _, _, _, _, _, _, _, w, _⟩ := q
          rw [q2] at w; cases w
        · cases o with
          | tbl ps =>
            obtain ⟨qs, h3⟩ := x.tbl c2 ps z
            rw [h3] at q2; cases q2
          | _ => rw [x.keep c2 _ n z fun _ z => by cases z] at q2; cases q2
theorem Ok.bagAt (k : Ok b F H) {a : Addr} (e : b.bag = some a) : ∃ o, H a = some o := by
  obtain ⟨_, q, _⟩ := k
  rw [e] at q
  obtain ⟨_, _, _, _, _, _, _, _, q1, _⟩ := q
  exact ⟨_, q1⟩
theorem Ok.bagF (k : Ok b F H) {a : Addr} (e : b.bag = some a) : F a = none := by
  obtain ⟨_, q, _⟩ := k
  rw [e] at q
  exact q.1
/-- BagOk looks at the bag and at its cells alone -/
theorem BagOk.to (k : Ok b F H) (g : Sub F F') (n : ∀ a, b.bag = some a → F' a = none) (h : ∀ a o, b.bag = some a → H a = some o → H' a = some o) : BagOk F' H' b.bag := by
  obtain ⟨_, q, _⟩ := k
  obtain ⟨bg, nm⟩ := b
  cases bg with
  | none => trivial
  | some a =>
    obtain ⟨_, c, cs, i, v, m, z, q1, q2, q3⟩ := q
    exact ⟨n a rfl, c, cs, i, v, m, z, g _ _ q1, h a _ rfl q2, q3⟩
/-- a new object that stays out of F -/
theorem Ext.laid (k : Ok b F H) (hp : H p = none) : Ext b F H F (upd H p o) where
  keep := fun a u _ h _ => by rw [upd_ne (ne_of_none h hp)]; exact h
  tbl := fun a ps h => ⟨ps, by rw [upd_ne (ne_of_none h hp)]; exact h⟩
  tabs := fun P h => (k.2.2.2 P h).ext fun a u e => by rw [upd_ne (ne_of_none e hp)]; exact e
  nt := k.2.2.1
  grow := Sub.refl F
  sub := fun a u h => by rw [upd_ne (ne_of_none (k.1 a u h) hp)]; exact k.1 a u h
  new := fun _ _ _ _ => rfl
  bag := BagOk.to k (Sub.refl F) (fun a e => k.bagF e) fun a u e h => by rw [upd_ne (ne_of_none h hp)]; exact h
  cell := fun a c r e h => ⟨c, r, by rw [upd_ne (ne_of_none h hp)]; exact h, .inl rfl⟩
/-- a new object, taken into F -/
theorem NoT.upd {u : HO} (n : NoT F) (nu : notTbl u) : NoT (upd F p u) := fun a v h => by
  by_cases e : a = p
  · rw [e, upd_same] at h
    cases h
    exact nu
  · rw [upd_ne e] at h
    exact n a v h
theorem Ext.push (k : Ok b F H) (hp : H p = none) (nu : notTbl o := by intro _ z; cases z) : Ext b F H (upd F p o) (upd H p o) where
  keep := fun a u _ h _ => by rw [upd_ne (ne_of_none h hp)]; exact h
  tbl := fun a ps h => ⟨ps, by rw [upd_ne (ne_of_none h hp)]; exact h⟩
  tabs := fun P h => (k.2.2.2 P h).ext fun a u e => by rw [upd_ne (ne_of_none e hp)]; exact e
  nt := k.2.2.1.upd nu
  grow := fun a u h => by rw [upd_ne (ne_of_none (k.1 a u h) hp)]; exact h
  sub := fun a u h => by
    by_cases e : a = p
    · subst e; rw [upd_same] at h ⊢; exact h
    · rw [upd_ne e] at h ⊢; exact k.1 a u h
  new := fun a u h _ => by rw [upd_ne (ne_of_none h hp)]
  bag := BagOk.to k (fun a u h => by rw [upd_ne (ne_of_none (k.1 a u h) hp)]; exact h) (fun a e => by
    obtain ⟨u, q⟩ := k.bagAt e
    rw [upd_ne (ne_of_none q hp)]
    exact k.bagF e) fun a u e h => by rw [upd_ne (ne_of_none h hp)]; exact h
  cell := fun a c r e h => ⟨c, r, by rw [upd_ne (ne_of_none h hp)]; exact h, .inl rfl⟩
/-- an object that stands in H', new since H, not in F', is taken into F' -/
theorem Ext.take (x : Ext b F H F' H') (hp : H p = none) (hn : b.bag ≠ some p) (h : H' p = some o) (nu : notTbl o := by intro _ z; cases z) : Ext b F H (upd F' p o) H' where
  keep := x.keep
  tbl := x.tbl
  tabs := x.tabs
  nt := x.nt.upd nu
  grow := fun a u q => by
    by_cases e : a = p
    · subst e
      have z := x.sub _ _ (x.grow _ _ q)
      rw [h] at z
      rw [upd_same]
      exact z
    · rw [upd_ne e]; exact x.grow a u q
  sub := fun a u q => by
    by_cases e : a = p
    · subst e; rw [upd_same] at q; rw [h]; exact q
    · rw [upd_ne e] at q; exact x.sub a u q
  new := fun a u q ne => by rw [upd_ne (ne_of_none q hp)]; exact x.new a u q ne
  bag := BagOk.to x.ok (fun a u q => by
    by_cases e : a = p
    · subst e
      have z := x.sub _ _ q
      rw [h] at z
      rw [upd_same]
      exact z
    · rw [upd_ne e]; exact q) (fun a e => by rw [upd_ne (fun z => hn (e.trans (congrArg some z)))]; exact x.ok.bagF e) fun a u _ q => q
  cell := x.cell
/-- a thing that is told by what is true of it is taken into F' -/
theorem Ext.takeE {φ : Heap → Prop} (x : Ext b F H F' H') (hf : F' p = none) (h : H' p = some (.ext φ)) (hp : ∀ u, H p = some u → u = .ext φ) : Ext b F H (upd F' p (.ext φ)) H' where
  keep := x.keep
  tbl := x.tbl
  tabs := x.tabs
  nt := x.nt.upd fun _ z => by cases z
  grow := fun a u q => by rw [upd_ne (ne_of_none (x.grow _ _ q) hf)]; exact x.grow a u q
  sub := fun a u q => by
    by_cases e : a = p
    · subst e; rw [upd_same] at q; rw [h]; exact q
    · rw [upd_ne e] at q; exact x.sub a u q
  new := fun a u q ne => by
    have hn : a ≠ p := fun e => by
      rw [e] at q
      exact ne φ (hp u q)
    rw [upd_ne hn]; exact x.new a u q ne
  bag := by
    have nb : b.bag ≠ some p := fun e => by
      have q := x.bag
      rw [e] at q
      obtain ⟨_, _, _, _, _, _, _, _, q1, _⟩ := q
      rw [h] at q1
      cases q1
    exact BagOk.to x.ok (fun a u q => by rw [upd_ne (ne_of_none q hf)]; exact q) (fun a e => by rw [upd_ne (fun z => nb (e.trans (congrArg some z)))]; exact x.ok.bagF e) fun a u _ q => q
  cell := x.cell
theorem tabS_wr {P : Addr} {q : Str} {u : HO} (h : LamX.TabS H P q) (hu : H p = some u) (nu : notTbl u) (ne : notExt u) : LamX.TabS (upd H p o) P q := by
  obtain ⟨ps, h1, h2, h3⟩ := h
  refine ⟨ps, ?_, h2, fun pos cv hc => ?_⟩
  · rw [upd_ne]
    · exact h1
    · intro z
      rw [z, hu] at h1
      exact nu ps (Option.some.inj h1)
  · obtain ⟨c, e1, e2⟩ := h3 pos cv hc
    refine ⟨c, e1, ?_⟩
    rw [upd_ne]
    · exact e2
    · intro z
      rw [z, hu] at e2
      exact ne _ (Option.some.inj e2)
/-- an object that H does not know, and that F' has not, is written -/
theorem Ext.wr {u : HO} (x : Ext b F H F' H') (hp : H p = none) (hf : F' p = none) (hn : b.bag ≠ some p) (hu : H' p = some u) (nu : notTbl u) (ne : notExt u) : Ext b F H F' (upd H' p o) where
  keep := fun a u n h t => by rw [upd_ne (ne_of_none h hp)]; exact x.keep a u n h t
  tbl := fun a ps h => by
    obtain ⟨qs, h2⟩ := x.tbl a ps h
    exact ⟨qs, by rw [upd_ne (ne_of_none h hp)]; exact h2⟩
  tabs := fun P h => tabS_wr (x.tabs P h) hu nu ne
  nt := x.nt
  grow := x.grow
  sub := fun a u h => by rw [upd_ne (ne_of_none h hf)]; exact x.sub a u h
  new := x.new
  bag := BagOk.to x.ok (Sub.refl _) (fun a e => x.ok.bagF e) fun a u e h => by rw [upd_ne (fun z => hn (e.trans (congrArg some z)))]; exact h
  cell := fun a c r e h => by
    obtain ⟨c', r', h', q⟩ := x.cell a c r e h
    exact ⟨c', r', by rw [upd_ne (fun z => hn (e.trans (congrArg some z)))]; exact h', q⟩
theorem Ext.back (x : Ext b F H F' H') (k : Ok b F H) (h : H' p = none) : H p = none := by
  cases q : H p with
  | none => rfl
  | some u =>
    by_cases n : b.bag = some p
    · obtain ⟨w, z⟩ := x.ok.bagAt n
      rw [h] at z; cases z
    · cases u with
      | tbl ps =>
        obtain ⟨qs, h3⟩ := x.tbl p ps q
        rw [h3] at h; cases h
      | _ => rw [x.keep p _ n q fun _ z => by cases z] at h; cases h
theorem Ok.nb (k : Ok b F H) (h : H p = none) : b.bag ≠ some p := fun e => by
  obtain ⟨u, q⟩ := k.bagAt e
  rw [h] at q; cases q
theorem Ok.fF (k : Ok b F H) (h : H p = none) : F p = none := by
  cases q : F p with
  | none => rfl
  | some u => rw [k.1 p u q] at h; cases h
theorem Ext.mono (x : Ext b F H F' H') {v : V} {d : Dt} (r : Rep b F v d) : Rep b F' v d := r.mono x.grow
end
end DL

namespace DL
open PySem PySem.Spec PyProof.Rows L2
/-- a slot: nothing known, a value that holds d, a list that is this def's alone (it may still be changed) -/
inductive Sl where
  | un | val (d : Dt) | own (l : Addr) (xs : List Dt)
  /-- a dict or an instance that is this def's alone -/
  | obj (l : Addr) (d : Dt)
  /-- a list that is this def's alone, told of by a place within an own dict; the slot's name is out of use meanwhile -/
  | hid (l : Addr) (xs : List Dt)
/-- where a slot's own thing stands -/
def Sl.adr : Sl → Option Addr
  | .own l _ => some l
  | .obj l _ => some l
  | .hid l _ => some l
  | _ => none
abbrev Gm := List Sl
@[reducible] def gat : Gm → Nat → Sl
  | [], _ => .un
  | s :: _, 0 => s
  | _ :: r, n + 1 => gat r n
@[reducible] def gset : Gm → Nat → Sl → Gm
  | [], _, _ => []
  | _ :: r, 0, s => s :: r
  | z :: r, n + 1, s => z :: gset r n s
@[reducible] def gwipe (γ : Gm) : List Nat → Gm
  | [] => γ
  | i :: r => gset (gwipe γ r) i .un
theorem gset_len : ∀ (γ : Gm) (i : Nat) (s : Sl), (gset γ i s).length = γ.length
  | [], _, _ => rfl
  | _ :: _, 0, _ => rfl
  | _ :: r, n + 1, s => congrArg (· + 1) (gset_len r n s)
theorem gwipe_len (γ : Gm) : ∀ js, (gwipe γ js).length = γ.length
  | [] => rfl
  | i :: r => (gset_len _ i _).trans (gwipe_len γ r)
theorem gat_set_ne : ∀ (γ : Gm) {i j : Nat} (s : Sl), j ≠ i → gat (gset γ i s) j = gat γ j
  | [], _, _, _, _ => rfl
  | _ :: _, 0, 0, _, h => (h rfl).elim
  | _ :: _, 0, j + 1, _, _ => rfl
  | _ :: _, i + 1, 0, _, _ => rfl
  | _ :: r, i + 1, j + 1, s, h => gat_set_ne r s fun e => h (congrArg (· + 1) e)
theorem gat_set : ∀ (γ : Gm) {i : Nat} (s : Sl), gat (gset γ i s) i = s ∨ (gat (gset γ i s) i = .un ∧ γ.length ≤ i)
  | [], _, _ => .inr ⟨rfl, Nat.zero_le _⟩
  | _ :: _, 0, _ => .inl rfl
  | _ :: r, i + 1, s => by
    rcases gat_set r (i := i) s with h | ⟨h, k⟩
    · exact .inl h
    · exact .inr ⟨h, Nat.succ_le_succ k⟩
theorem gat_wipe (γ : Gm) {j : Nat} : ∀ {js : List Nat}, j ∉ js → gat (gwipe γ js) j = gat γ j
  | [], _ => rfl
  | i :: r, h => by
    show gat (gset (gwipe γ r) i .un) j = gat γ j
    rw [gat_set_ne _ _ (fun e => h (by rw [e]; exact List.mem_cons_self)), gat_wipe γ fun q => h (List.mem_cons_of_mem _ q)]
theorem gat_wiped (γ : Gm) {j : Nat} : ∀ {js : List Nat}, j ∈ js → gat (gwipe γ js) j = .un
  | i :: r, h => by
    show gat (gset (gwipe γ r) i .un) j = .un
    by_cases e : j = i
    · subst e
      rcases gat_set (gwipe γ r) (i := j) .un with q | ⟨q, _⟩ <;> exact q
    · rw [gat_set_ne _ _ e]
      rcases List.mem_cons.mp h with q | q
      · exact (e q).elim
      · exact gat_wiped γ q

def SlOk (b : Bg) (H0 F H : Hp) (w : Option (Option V)) : Sl → Prop
  | .un => True
  | .val d => ∃ v, w = some (some v) ∧ Rep b F v d
  | .own l xs => ∃ vs, w = some (some (.ref l)) ∧ H l = some (.lst vs) ∧ RepL b F vs xs ∧ F l = none ∧ H0 l = none ∧ b.bag ≠ some l
  | .obj l d => ∃ u, w = some (some (.ref l)) ∧ H l = some u ∧ RepO b F u d ∧ F l = none ∧ H0 l = none ∧ b.bag ≠ some l
  | .hid l xs => ∃ vs, H l = some (.lst vs) ∧ RepL b F vs xs ∧ F l = none ∧ H0 l = none ∧ b.bag ≠ some l
structure Nv (b : Bg) (Fm F0 H0 F H : Hp) (σ : L2.St) (γ : Gm) : Prop where
  ok0 : Ok b F0 H0
  fm : Sub Fm F
  ext : Ext b F0 H0 F H
  len : σ.length = γ.length
  slot : ∀ i, SlOk b H0 F H σ[i]? (gat γ i)
  dis : ∀ i j a, (gat γ i).adr = some a → (gat γ j).adr = some a → i = j
section
variable {b : Bg} {Fm F0 H0 F H F' H' : Hp} {σ : L2.St} {γ : Gm}
theorem Nv.ok (n : Nv b Fm F0 H0 F H σ γ) : Ok b F H := n.ext.ok
theorem SlOk.to {w : Option (Option V)} (x : Ext b F H F' H') : ∀ {s : Sl}, SlOk b H0 F H w s → SlOk b H0 F' H' w s
  | .un, _ => True.intro
  | .val d, h => by
    obtain ⟨v, h1, h2⟩ := h
    exact ⟨v, h1, x.mono h2⟩
  | .own l xs, h => by
    obtain ⟨vs, h1, h2, h3, h4, h5, h6⟩ := h
    exact ⟨vs, h1, x.keep _ _ h6 h2 .lst, h3.mono x.grow, by rw [x.new _ _ h2 .lst]; exact h4, h5, h6⟩
  | .obj l d, h => by
    obtain ⟨u, h1, h2, h3, h4, h5, h6⟩ := h
    exact ⟨u, h1, x.keep _ _ h6 h2 h3.nt, h3.mono x.grow, by rw [x.new _ _ h2 h3.ne]; exact h4, h5, h6⟩
  | .hid l xs, h => by
    obtain ⟨vs, h2, h3, h4, h5, h6⟩ := h
    exact ⟨vs, x.keep _ _ h6 h2 .lst, h3.mono x.grow, by rw [x.new _ _ h2 .lst]; exact h4, h5, h6⟩
theorem SlOk.grow {w : Option (Option V)} (g : Sub F F') : ∀ {s : Sl}, (∀ a, s.adr = some a → F a = none → F' a = none) → SlOk b H0 F H w s → SlOk b H0 F' H w s
  | .un, _, _ => True.intro
  | .val d, _, h => by
    obtain ⟨v, h1, h2⟩ := h
    exact ⟨v, h1, h2.mono g⟩
  | .own l xs, n, h => by
    obtain ⟨vs, h1, h2, h3, h4, h5, h6⟩ := h
    exact ⟨vs, h1, h2, h3.mono g, n l rfl h4, h5, h6⟩
  | .obj l d, n, h => by
    obtain ⟨u, h1, h2, h3, h4, h5, h6⟩ := h
    exact ⟨u, h1, h2, h3.mono g, n l rfl h4, h5, h6⟩
  | .hid l xs, n, h => by
    obtain ⟨vs, h2, h3, h4, h5, h6⟩ := h
    exact ⟨vs, h2, h3.mono g, n l rfl h4, h5, h6⟩
theorem SlOk.wr {w : Option (Option V)} {l : Addr} {o : HO} : ∀ {s : Sl}, (∀ a, s.adr = some a → a ≠ l) → SlOk b H0 F H w s → SlOk b H0 F (upd H l o) w s
  | .un, _, _ => True.intro
  | .val d, _, h => h
  | .own m xs, n, h => by
    obtain ⟨vs, h1, h2, h3, h4, h5, h6⟩ := h
    exact ⟨vs, h1, by rw [upd_ne (n m rfl)]; exact h2, h3, h4, h5, h6⟩
  | .obj m d, n, h => by
    obtain ⟨u, h1, h2, h3, h4, h5, h6⟩ := h
    exact ⟨u, h1, by rw [upd_ne (n m rfl)]; exact h2, h3, h4, h5, h6⟩
  | .hid m xs, n, h => by
    obtain ⟨vs, h2, h3, h4, h5, h6⟩ := h
    exact ⟨vs, by rw [upd_ne (n m rfl)]; exact h2, h3, h4, h5, h6⟩
theorem gat_set_out : ∀ (γ : Gm) {k : Nat} (s : Sl), γ.length ≤ k → gat (gset γ k s) k = .un
  | [], _, _, _ => rfl
  | _ :: _, 0, _, h => by cases h
  | _ :: r, k + 1, s, h => gat_set_out r s (Nat.le_of_succ_le_succ h)
theorem Nv.to (n : Nv b Fm F0 H0 F H σ γ) (x : Ext b F H F' H') : Nv b Fm F0 H0 F' H' σ γ where
  ok0 := n.ok0
  fm := n.fm.trans x.grow
  ext := n.ext.trans x
  len := n.len
  slot := fun i => (n.slot i).to x
  dis := n.dis
/-- a slot is given what it holds from now on -/
theorem Nv.setG (n : Nv b Fm F0 H0 F H σ γ) (i : Nat) {v : V} {s : Sl} (r : SlOk b H0 F H (some (some v)) s) (new : ∀ j a, j ≠ i → (gat γ j).adr = some a → s.adr ≠ some a) : Nv b Fm F0 H0 F H (σ.set i (some v)) (gset γ i s) where
  ok0 := n.ok0
  fm := n.fm
  ext := n.ext
  len := by rw [List.length_set, gset_len]; exact n.len
  slot := fun j => by
    by_cases e : j = i
    · subst e
      by_cases hl : j < σ.length
      · rcases gat_set γ (i := j) s with q | ⟨q, _⟩
        · rw [q, List.getElem?_set_self hl]; exact r
        · rw [q]; exact True.intro
      · rw [gat_set_out γ s (by rw [← n.len]; omega)]
        exact True.intro
    · rw [gat_set_ne _ _ e, List.getElem?_set_ne (Ne.symm e)]
      exact n.slot j
  dis := fun j k a hj hk => by
    have at_i : ∀ a, (gat (gset γ i s) i).adr = some a → s.adr = some a := fun a hz => by
      rcases gat_set γ (i := i) s with q | ⟨q, _⟩
      · rw [q] at hz; exact hz
      · rw [q] at hz; cases hz
    by_cases ej : j = i
    · by_cases ek : k = i
      · rw [ej, ek]
      · exfalso
        subst ej
        rw [gat_set_ne _ _ ek] at hk
        exact new k a ek hk (at_i a hj)
    · by_cases ek : k = i
      · exfalso
        subst ek
        rw [gat_set_ne _ _ ej] at hj
        exact new j a ej hj (at_i a hk)
      · rw [gat_set_ne _ _ ej] at hj
        rw [gat_set_ne _ _ ek] at hk
        exact n.dis j k a hj hk
/-- a slot is given a value -/
theorem Nv.set (n : Nv b Fm F0 H0 F H σ γ) (i : Nat) {v : V} {d : Dt} (r : Rep b F v d) : Nv b Fm F0 H0 F H (σ.set i (some v)) (gset γ i (.val d)) :=
  n.setG i (s := .val d) ⟨v, rfl, r⟩ fun _ _ _ _ h => by cases h
/-- a slot is given a list of its own: new since H1, where the slots stood as they do -/
theorem Nv.setOwn (n : Nv b Fm F0 H0 F H σ γ) (i : Nat) {l : Addr} {vs : List V} {xs : List Dt} (h : H l = some (.lst vs)) (r : RepL b F vs xs) (f : F l = none) (h0 : H0 l = none) (nb : b.bag ≠ some l)
    (new : ∀ j a, (gat γ j).adr = some a → a ≠ l) : Nv b Fm F0 H0 F H (σ.set i (some (.ref l))) (gset γ i (.own l xs)) :=
  n.setG i (s := .own l xs) ⟨vs, rfl, h, r, f, h0, nb⟩ fun j a _ hj e => new j a hj (Option.some.inj e).symm
theorem Nv.setObj (n : Nv b Fm F0 H0 F H σ γ) (i : Nat) {l : Addr} {u : HO} {d : Dt} (h : H l = some u) (r : RepO b F u d) (f : F l = none) (h0 : H0 l = none) (nb : b.bag ≠ some l)
    (new : ∀ j a, (gat γ j).adr = some a → a ≠ l) : Nv b Fm F0 H0 F H (σ.set i (some (.ref l))) (gset γ i (.obj l d)) :=
  n.setG i (s := .obj l d) ⟨u, rfl, h, r, f, h0, nb⟩ fun j a _ hj e => new j a hj (Option.some.inj e).symm
/-- an own thing stands in the heap -/
theorem Nv.there (n : Nv b Fm F0 H0 F H σ γ) {j : Nat} {a : Addr} (h : (gat γ j).adr = some a) : ∃ u, H a = some u := by
  have hj := n.slot j
  cases e : gat γ j with
  | un => rw [e] at h; cases h
  | val d => rw [e] at h; cases h
  | own l xs =>
    rw [e] at h hj
    cases h
    obtain ⟨vs, _, h2, _⟩ := hj
    exact ⟨_, h2⟩
  | obj l d =>
    rw [e] at h hj
    cases h
    obtain ⟨u, _, h2, _⟩ := hj
    exact ⟨_, h2⟩
  | hid l xs =>
    rw [e] at h hj
    cases h
    obtain ⟨vs, h2, _⟩ := hj
    exact ⟨_, h2⟩
/-- what an own slot's list is, is no longer asked for -/
theorem Nv.forget (n : Nv b Fm F0 H0 F H σ γ) {σ' : L2.St} {γ' : Gm} (hl : σ'.length = σ.length) (hg : γ'.length = γ.length) (h : ∀ i, gat γ' i = .un ∨ (gat γ' i = gat γ i ∧ σ'[i]? = σ[i]?)) : Nv b Fm F0 H0 F H σ' γ' where
  ok0 := n.ok0
  fm := n.fm
  ext := n.ext
  len := by rw [hl, hg]; exact n.len
  slot := fun i => by
    rcases h i with e | ⟨e, e'⟩
    · rw [e]; exact True.intro
    · rw [e, e']; exact n.slot i
  dis := fun j k a hj hk => by
    rcases h j with e | ⟨e, e'⟩
    · rw [e] at hj; cases hj
    · rcases h k with f | ⟨f, f'⟩
      · rw [f] at hk; cases hk
      · exact n.dis j k a (e ▸ hj) (f ▸ hk)
/-- an own thing becomes a value like any other -/
theorem Nv.freezeG (n : Nv b Fm F0 H0 F H σ γ) {i : Nat} {l : Addr} {u : HO} {d : Dt} (ea : (gat γ i).adr = some l) (h1 : σ[i]? = some (some (.ref l))) (h2 : H l = some u) (h3 : RepO b F u d) (h4 : F l = none) (h5 : H0 l = none) (h6 : b.bag ≠ some l) :
    Nv b Fm F0 H0 (upd F l u) H σ (gset γ i (.val d)) ∧ Sub F (upd F l u) := by
  have x : Ext b F0 H0 (upd F l u) H := n.ext.take h5 h6 h2 h3.nt
  have g : Sub F (upd F l u) := fun a o q => by rw [upd_ne (ne_of_none q h4)]; exact q
  refine ⟨⟨n.ok0, n.fm.trans g, x, by rw [gset_len]; exact n.len, fun j => ?_, fun j k a hj hk => ?_⟩, g⟩
  · by_cases ej : j = i
    · subst ej
      rcases gat_set γ (i := j) (.val d) with q | ⟨q, _⟩
      · rw [q]
        exact ⟨.ref l, h1, (h3.mono g).rep upd_same⟩
      · rw [q]; exact True.intro
    · rw [gat_set_ne _ _ ej]
      exact (n.slot j).grow g fun a ha hn => by rw [upd_ne (fun z => ej (n.dis j i a ha (by rw [ea, z])))]; exact hn
  · have nj : j ≠ i := fun z => by
      subst z
      rcases gat_set γ (i := j) (.val d) with q | ⟨q, _⟩ <;> (rw [q] at hj; cases hj)
    have nk : k ≠ i := fun z => by
      subst z
      rcases gat_set γ (i := k) (.val d) with q | ⟨q, _⟩ <;> (rw [q] at hk; cases hk)
    rw [gat_set_ne _ _ nj] at hj
    rw [gat_set_ne _ _ nk] at hk
    exact n.dis j k a hj hk
theorem Nv.freeze (n : Nv b Fm F0 H0 F H σ γ) {i : Nat} {l : Addr} {xs : List Dt} (e : gat γ i = .own l xs) : ∃ F', Nv b Fm F0 H0 F' H σ (gset γ i (.val (.lst xs))) ∧ Sub F F' := by
  have hi := n.slot i
  rw [e] at hi
  obtain ⟨vs, h1, h2, h3, h4, h5, h6⟩ := hi
  exact ⟨_, n.freezeG (d := .lst xs) (by rw [e]; rfl) h1 h2 (.lst h3) h4 h5 h6⟩
theorem Nv.freezeO (n : Nv b Fm F0 H0 F H σ γ) {i : Nat} {l : Addr} {d : Dt} (e : gat γ i = .obj l d) : ∃ F', Nv b Fm F0 H0 F' H σ (gset γ i (.val d)) ∧ Sub F F' := by
  have hi := n.slot i
  rw [e] at hi
  obtain ⟨u, h1, h2, h3, h4, h5, h6⟩ := hi
  exact ⟨_, n.freezeG (d := d) (by rw [e]; rfl) h1 h2 h3 h4 h5 h6⟩
/-- an own thing is changed -/
theorem Nv.wrG (n : Nv b Fm F0 H0 F H σ γ) {i : Nat} {l : Addr} {u u0 : HO} {s : Sl} (hu0 : H l = some u0) (nu0 : notTbl u0) (ne0 : notExt u0) (ea : (gat γ i).adr = some l) (h4 : F l = none) (h5 : H0 l = none) (h6 : b.bag ≠ some l) (hs : s.adr = some l) (r : SlOk b H0 F (upd H l u) σ[i]? s) : Nv b Fm F0 H0 F (upd H l u) σ (gset γ i s) := by
  have back : ∀ j a, (gat (gset γ i s) j).adr = some a → (gat γ j).adr = some a := fun j a hj => by
    by_cases z : j = i
    · subst z
      rcases gat_set γ (i := j) s with q | ⟨q, _⟩
      · rw [q, hs] at hj; rw [ea]; exact hj
      · rw [q] at hj; cases hj
    · rw [gat_set_ne _ _ z] at hj; exact hj
  refine ⟨n.ok0, n.fm, n.ext.wr h5 h4 h6 hu0 nu0 ne0, by rw [gset_len]; exact n.len, fun j => ?_, fun j k a hj hk => n.dis j k a (back j a hj) (back k a hk)⟩
  by_cases ej : j = i
  · subst ej
    rcases gat_set γ (i := j) s with q | ⟨q, _⟩
    · rw [q]; exact r
    · rw [q]; exact True.intro
  · rw [gat_set_ne _ _ ej]
    exact (n.slot j).wr fun a ha z => ej (n.dis j i a ha (by rw [ea, z]))
/-- an own list is changed -/
theorem Nv.wr (n : Nv b Fm F0 H0 F H σ γ) {i : Nat} {xs ys : List Dt} {l : Addr} {ws : List V} (e : gat γ i = .own l xs) (r : RepL b F ws ys) : Nv b Fm F0 H0 F (upd H l (.lst ws)) σ (gset γ i (.own l ys)) := by
  have hi := n.slot i
  rw [e] at hi
  obtain ⟨vs', h1, h2, h3, h4, h5, h6⟩ := hi
  exact n.wrG h2 .lst (fun _ z => by cases z) (by rw [e]; rfl) h4 h5 h6 rfl ⟨ws, h1, upd_same, r, h4, h5, h6⟩
theorem Nv.wrO (n : Nv b Fm F0 H0 F H σ γ) {i : Nat} {d d' : Dt} {l : Addr} {u : HO} (e : gat γ i = .obj l d) (r : RepO b F u d') : Nv b Fm F0 H0 F (upd H l u) σ (gset γ i (.obj l d')) := by
  have hi := n.slot i
  rw [e] at hi
  obtain ⟨u', h1, h2, h3, h4, h5, h6⟩ := hi
  exact n.wrG h2 h3.nt h3.ne (by rw [e]; rfl) h4 h5 h6 rfl ⟨u, h1, upd_same, r, h4, h5, h6⟩
end

/-! ### readings told by data -/
abbrev DT := Gm → (Dt → Prop) → Prop
abbrev DBt := Gm → (Bool → Prop) → Prop
abbrev DAt := Gm → (List Dt → Prop) → Prop
def DE (b : Bg) (te : TE) (T : DT) : Prop := ∀ {Fm F0 H0 F H : Hp} {σ : L2.St} {γ : Gm} (P : Dt → Prop), Nv b Fm F0 H0 F H σ γ → T γ P → ∀ Q : VK, (∀ v d F' H', Ext b F H F' H' → Rep b F' v d → P d → Q v H') → te σ H Q
def DB (b : Bg) (tt : TT) (T : DBt) : Prop := ∀ {Fm F0 H0 F H : Hp} {σ : L2.St} {γ : Gm} (P : Bool → Prop), Nv b Fm F0 H0 F H σ γ → T γ P → ∀ Q : Bool → Hp → Prop, (∀ c F' H', Ext b F H F' H' → P c → Q c H') → tt σ H Q
def DA (b : Bg) (ta : TA) (T : DAt) : Prop := ∀ {Fm F0 H0 F H : Hp} {σ : L2.St} {γ : Gm} (P : List Dt → Prop), Nv b Fm F0 H0 F H σ γ → T γ P → ∀ Q : List V → Hp → Prop, (∀ vs ds F' H', Ext b F H F' H' → RepL b F' vs ds → P ds → Q vs H') → ta σ H Q
/-- a new list, not yet taken for a value -/
def DLs (b : Bg) (te : TE) (T : DAt) : Prop := ∀ {Fm F0 H0 F H : Hp} {σ : L2.St} {γ : Gm} (P : List Dt → Prop), Nv b Fm F0 H0 F H σ γ → T γ P →
  ∀ Q : VK, (∀ p vs xs F' H', Ext b F H F' H' → H p = none → H' p = some (.lst vs) → F' p = none → RepL b F' vs xs → P xs → Q (.ref p) H') → te σ H Q
structure De where
  nx : Gm → Prop
  rt : Gm → Dt → Prop
  bk : Gm → Prop := fun _ => False
  ct : Gm → Prop := fun _ => False
abbrev DSt := De → Gm → Prop
structure EndsOk (b : Bg) (Fm F0 H0 : Hp) (D : Ends) (E : De) : Prop where
  nx : ∀ {F H : Hp} {σ : L2.St} {γ : Gm}, Nv b Fm F0 H0 F H σ γ → E.nx γ → D.nx σ H
  rt : ∀ {F H : Hp} {σ : L2.St} {γ : Gm} {v : V} {d : Dt}, Nv b Fm F0 H0 F H σ γ → Rep b F v d → E.rt γ d → D.rt v H
  bk : ∀ {F H : Hp} {σ : L2.St} {γ : Gm}, Nv b Fm F0 H0 F H σ γ → E.bk γ → D.bk σ H
  ct : ∀ {F H : Hp} {σ : L2.St} {γ : Gm}, Nv b Fm F0 H0 F H σ γ → E.ct γ → D.ct σ H
def DS (b : Bg) (ts : TS) (T : DSt) : Prop := ∀ {Fm F0 H0 F H : Hp} {σ : L2.St} {γ : Gm} (E : De), Nv b Fm F0 H0 F H σ γ → T E γ → ∀ D : Ends, EndsOk b Fm F0 H0 D E → ts D σ H
/-- a target of an assignment, the slots that it writes -/
def DG (b : Bg) (g : TG) (T : Dt → Gm → (Gm → Prop) → Prop) (js : List Nat) : Prop := ∀ {Fm F0 H0 F H : Hp} {σ : L2.St} {γ : Gm} (P : Gm → Prop) {v : V} {d : Dt}, Nv b Fm F0 H0 F H σ γ → Rep b F v d → T d γ P →
  ∀ Q : L2.St → Hp → Prop, (∀ σ' γ', Nv b Fm F0 H0 F H σ' γ' → σ'.length = σ.length → (∀ i, i ∉ js → σ'[i]? = σ[i]?) → P γ' → Q σ' H) → g v σ H Q
def DGs (b : Bg) (g : TGs) (T : List Dt → Gm → (Gm → Prop) → Prop) (js : List Nat) : Prop := ∀ {Fm F0 H0 F H : Hp} {σ : L2.St} {γ : Gm} (P : Gm → Prop) {vs : List V} {ds : List Dt}, Nv b Fm F0 H0 F H σ γ → RepL b F vs ds → T ds γ P →
  ∀ Q : L2.St → Hp → Prop, (∀ σ' γ', Nv b Fm F0 H0 F H σ' γ' → σ'.length = σ.length → (∀ i, i ∉ js → σ'[i]? = σ[i]?) → P γ' → Q σ' H) → g vs σ H Q
/-- what is walked: the items, one after another; Fx what stands still meanwhile -/
structure WalkD (b : Bg) (J : It) (Fx : Hp) (xs : List Dt) : Prop where
  ex : ∃ Y, Walk J xs.length (fun H => Sub Fx H) Y ∧ ∀ i H x H', i < xs.length → Y i H x H' → ∃ d, xs[i]? = some d ∧ ((H' = H ∧ Rep b Fx x d) ∨ ∃ T vs ds, x = .ref T ∧ H T = none ∧ H' = upd H T (.tup vs) ∧ RepL b Fx vs ds ∧ d = .tup ds)
def DI (b : Bg) (wi : TI) (T : DAt) : Prop := ∀ {Fm F0 H0 F H : Hp} {σ : L2.St} {γ : Gm} (P : List Dt → Prop), Nv b Fm F0 H0 F H σ γ → T γ P →
  ∀ R : It → Hp → Prop, (∀ J xs F' H', Ext b F H F' H' → WalkD b J F' xs → P xs → R J H') → wi σ H R

structure XE (X : Cx) (b : Bg) (e : Expr) (T : DT) : Prop where
  ex : ∃ te, PE X e te ∧ DE b te T
structure XL (X : Cx) (b : Bg) (e : Expr) (T : DAt) : Prop where
  ex : ∃ te, PE X e te ∧ DLs b te T
structure XT (X : Cx) (b : Bg) (e : Expr) (T : DBt) : Prop where
  ex : ∃ te, PT X e te ∧ DB b te T
structure XW (X : Cx) (b : Bg) (e : Expr) (T : DBt) : Prop where
  ex : ∃ te, PW X e te ∧ DB b te T
structure XA (X : Cx) (b : Bg) (es : List Expr) (T : DAt) : Prop where
  ex : ∃ te, PA X es te ∧ DA b te T
structure XKw (X : Cx) (b : Bg) (es : List Keyword) (T : DAt) : Prop where
  ex : ∃ te, PK X es te ∧ DA b te T
structure XG (X : Cx) (b : Bg) (e : Expr) (T : Dt → Gm → (Gm → Prop) → Prop) (js : List Nat) : Prop where
  ex : ∃ te, PG X e te ∧ DG b te T js
structure XGs (X : Cx) (b : Bg) (es : List Expr) (T : List Dt → Gm → (Gm → Prop) → Prop) (js : List Nat) : Prop where
  ex : ∃ te, PGs X es te ∧ DGs b te T js
structure XI (X : Cx) (b : Bg) (tg e : Expr) (T : DAt) : Prop where
  ex : ∃ te, PI X tg e te ∧ DI b te T
structure XTs (X : Cx) (b : Bg) (es : List Expr) (T : DBt) : Prop where
  ex : ∃ te, PTs X es te ∧ DB b te T
structure XS (X : Cx) (b : Bg) (st : Stmt) (T : DSt) : Prop where
  ex : ∃ te, PS X st te ∧ DS b te T
structure XSs (X : Cx) (b : Bg) (st : List Stmt) (T : DSt) : Prop where
  ex : ∃ te, PSs X st te ∧ DS b te T
end DL

namespace DL
open PySem PySem.Spec PyProof.Rows L2
section
variable {X : Cx} {b : Bg} {e e1 e2 e3 : Expr} {es : List Expr} {pos : Pos}
@[reducible] def nB : Bool → Bool
  | true => false
  | false => true
@[reducible] def oB : Bool → Bool → Bool
  | true, _ => true
  | false, y => y
@[reducible] def eB : Bool → Bool → Bool
  | true, y => y
  | false, y => nB y
theorem nB_eq (k : Bool) : (!k) = nB k := by cases k <;> rfl
theorem oB_eq (k l : Bool) : (k || l) = oB k l := by cases k <;> rfl
theorem eB_eq (k l : Bool) : (k == l) = eB k l := by cases k <;> cases l <;> rfl
/-! ### names, constants -/
@[reducible] def dVar (i : Nat) : DT := fun γ P => match gat γ i with | .val d => P d | _ => False
theorem de_var {i : Nat} : DE b (tVar i) (dVar i) := fun {Fm F0 H0 F H σ γ} P n h Q q => by
  unfold dVar at h
  have hi := n.slot i
  cases e : gat γ i with
  | un => rw [e] at h; exact h.elim
  | own l xs => rw [e] at h; exact h.elim
  | obj l d => rw [e] at h; exact h.elim
  | hid l d => rw [e] at h; exact h.elim
  | val d =>
    rw [e] at h hi
    obtain ⟨v, h1, h2⟩ := hi
    exact ⟨v, h1, q v d F H (Ext.refl n.ok) h2 h⟩
theorem xv (i : Nat) {x : Str} {pos : Pos} (hN : X.N[i]? = some x := by rfl) (hv : Vis X.env.scope x := by first | exact Or.inl rfl | exact Or.inr (Or.inl rfl) | exact Or.inr (Or.inr rfl)) (hd : (x == ("__debug__" : Str)) = false := by decide)
    (hcd : (x == ("__classdict__" : Str)) = false := by decide) : XE X b (.Name x pos) (dVar i) := ⟨_, pe_var hN hv hd hcd, de_var⟩
@[reducible] def dC (d : Dt) : DT := fun _ P => P d
theorem de_c {v : V} {d : Dt} (r : ∀ F, Rep b F v d) : DE b (tC v) (dC d) := fun P n h Q q => q v d _ _ (Ext.refl n.ok) (r _) h
theorem x_int {i j pos} : XE X b (.Constant (.int i) j pos) (dC (.int i)) := ⟨_, pe_int, de_c fun _ => .int i⟩
theorem x_bl {i j pos} : XE X b (.Constant (.bool i) j pos) (dC (.bl i)) := ⟨_, pe_bl, de_c fun _ => .bl i⟩
theorem x_non {j pos} : XE X b (.Constant .none j pos) (dC .non) := ⟨_, pe_non, de_c fun _ => .non⟩
theorem x_str {i j pos} : XE X b (.Constant (.str i) j pos) (dC (.str i)) := ⟨_, pe_str, de_c fun _ => .str i⟩
theorem x_gint {x : Str} {i : Int} {t : Tok} (hg : Gl X x) (hm : X.mg x = some (.int i t)) (hd : (x == ("__debug__" : Str)) = false := by decide) : XE X b (.Name x pos) (dC (.int i)) := ⟨_, pe_glob hg hm (v := .int i) ⟨t, rfl⟩ hd, de_c fun _ => .int i⟩
theorem x_gstr {x : Str} {i : Str} {t : Tok} (hg : Gl X x) (hm : X.mg x = some (.str i t)) (hd : (x == ("__debug__" : Str)) = false := by decide) : XE X b (.Name x pos) (dC (.str i)) := ⟨_, pe_glob hg hm (v := .str i) ⟨t, rfl⟩ hd, de_c fun _ => .str i⟩

/-! ### two-place operations by values -/
/-- r on what x and y hold gives, wherever, something P of which T tells -/
def D2 (b : Bg) (r : R2) (T : Dt → Dt → (Dt → Prop) → Prop) : Prop := ∀ {F H : Hp} {x y : V} {d e : Dt} (P : Dt → Prop), Ok b F H → Rep b F x d → Rep b F y e → T d e P → ∀ Q : VK, (∀ v d F' H', Ext b F H F' H' → Rep b F' v d → P d → Q v H') → r x y H Q
@[reducible] def d2 (T : Dt → Dt → (Dt → Prop) → Prop) (Ta Tb : DT) : DT := fun γ P => Ta γ fun x => Tb γ fun y => T x y P
theorem de_op {r : R2} {ta tb : TE} {Ta Tb : DT} {T} (h : D2 b r T) (ha : DE b ta Ta) (hb : DE b tb Tb) : DE b (tOp r ta tb) (d2 T Ta Tb) := fun P n t Q q =>
  ha _ n t _ fun v d F1 H1 x1 r1 t1 => hb _ (n.to x1) t1 _ fun w e F2 H2 x2 r2 t2 => h P (x2.ok) (x2.mono r1) r2 t2 Q fun u f F3 H3 x3 r3 p => q u f F3 H3 ((x1.trans x2).trans x3) r3 p
theorem d2_I0 {g : Int → Int → V} {gD : Int → Int → Dt} (h : ∀ i j F, Rep b F (g i j) (gD i j)) : D2 b (rI0 g) (fun x y P => match x, y with | .int i, .int j => P (gD i j) | _, _ => False) := fun {F H x y d e} P k r1 r2 t Q q => by
  cases r1 <;> cases r2 <;> first | exact ⟨_, _, rfl, rfl, q _ _ F H (Ext.refl k) (h _ _ F) t⟩ | exact t.elim
theorem d2_I {C : Int → Int → Prop} {g : Int → Int → V} {gD : Int → Int → Dt} (h : ∀ i j F, Rep b F (g i j) (gD i j)) : D2 b (rI C g) (fun x y P => match x, y with | .int i, .int j => C i j ∧ P (gD i j) | _, _ => False) := fun {F H x y d e} P k r1 r2 t Q q => by
  cases r1 <;> cases r2 <;> first | exact ⟨_, _, rfl, rfl, t.1, q _ _ F H (Ext.refl k) (h _ _ F) t.2⟩ | exact t.elim
@[reducible] def vInt (f : Int → Int → Int) (x y : Dt) (P : Dt → Prop) : Prop := match x, y with | .int i, .int j => P (.int (f i j)) | _, _ => False
@[reducible] def vIntC (C : Int → Int → Prop) (f : Int → Int → Int) (x y : Dt) (P : Dt → Prop) : Prop := match x, y with | .int i, .int j => C i j ∧ P (.int (f i j)) | _, _ => False
@[reducible] def vBl (f : Int → Int → Bool) (x y : Dt) (P : Dt → Prop) : Prop := match x, y with | .int i, .int j => P (.bl (f i j)) | _, _ => False
theorem x_sub (ha : XE X b e1 Ta) (hb : XE X b e2 Tb) : XE X b (.BinOp e1 .Sub e2 pos) (d2 (vInt fun i j => i - j) Ta Tb) := by
  obtain ⟨_, h1, h2⟩ := ha; obtain ⟨_, g1, g2⟩ := hb
  exact ⟨_, pe_op op_sub h1 g1, de_op (d2_I0 fun i j _ => .int _) h2 g2⟩
theorem x_addI (ha : XE X b e1 Ta) (hb : XE X b e2 Tb) : XE X b (.BinOp e1 .Add e2 pos) (d2 (vInt fun i j => i + j) Ta Tb) := by
  obtain ⟨_, h1, h2⟩ := ha; obtain ⟨_, g1, g2⟩ := hb
  exact ⟨_, pe_op op_add h1 g1, de_op (d2_I0 fun i j _ => .int _) h2 g2⟩
theorem x_mul (ha : XE X b e1 Ta) (hb : XE X b e2 Tb) : XE X b (.BinOp e1 .Mult e2 pos) (d2 (vIntC CMul fun i j => i * j) Ta Tb) := by
  obtain ⟨_, h1, h2⟩ := ha; obtain ⟨_, g1, g2⟩ := hb
  exact ⟨_, pe_op op_mul h1 g1, de_op (d2_I fun i j _ => .int _) h2 g2⟩
theorem x_mod (ha : XE X b e1 Ta) (hb : XE X b e2 Tb) : XE X b (.BinOp e1 .Mod e2 pos) (d2 (vIntC (fun _ j => 0 < j) fun i j => i % j) Ta Tb) := by
  obtain ⟨_, h1, h2⟩ := ha; obtain ⟨_, g1, g2⟩ := hb
  exact ⟨_, pe_op op_mod h1 g1, de_op (d2_I fun i j _ => .int _) h2 g2⟩
theorem x_fdiv (ha : XE X b e1 Ta) (hb : XE X b e2 Tb) : XE X b (.BinOp e1 .FloorDiv e2 pos) (d2 (vIntC CDiv fun i j => i / j) Ta Tb) := by
  obtain ⟨_, h1, h2⟩ := ha; obtain ⟨_, g1, g2⟩ := hb
  exact ⟨_, pe_op op_fdiv h1 g1, de_op (d2_I fun i j _ => .int _) h2 g2⟩
theorem x_pow (ha : XE X b e1 Ta) (hb : XE X b e2 Tb) : XE X b (.BinOp e1 .Pow e2 pos) (d2 (vIntC CPow fun i j => i ^ j.toNat) Ta Tb) := by
  obtain ⟨_, h1, h2⟩ := ha; obtain ⟨_, g1, g2⟩ := hb
  exact ⟨_, pe_op op_pow h1 g1, de_op (d2_I fun i j _ => .int _) h2 g2⟩
theorem x_lt (ha : XE X b e1 Ta) (hb : XE X b e2 Tb) : XE X b (.Compare e1 [.Lt] [e2] pos) (d2 (vBl fun i j => decide (i < j)) Ta Tb) := by
  obtain ⟨_, h1, h2⟩ := ha; obtain ⟨_, g1, g2⟩ := hb
  exact ⟨_, pe_cmpR op_lt h1 g1 (nomark _), de_op (d2_I0 fun i j _ => .bl _) h2 g2⟩
theorem x_le (ha : XE X b e1 Ta) (hb : XE X b e2 Tb) : XE X b (.Compare e1 [.LtE] [e2] pos) (d2 (vBl fun i j => decide (i ≤ j)) Ta Tb) := by
  obtain ⟨_, h1, h2⟩ := ha; obtain ⟨_, g1, g2⟩ := hb
  exact ⟨_, pe_cmpR op_le h1 g1 (nomark _), de_op (d2_I0 fun i j _ => .bl _) h2 g2⟩
theorem x_gt (ha : XE X b e1 Ta) (hb : XE X b e2 Tb) : XE X b (.Compare e1 [.Gt] [e2] pos) (d2 (vBl fun i j => decide (j < i)) Ta Tb) := by
  obtain ⟨_, h1, h2⟩ := ha; obtain ⟨_, g1, g2⟩ := hb
  exact ⟨_, pe_cmpR op_gt h1 g1 (nomark _), de_op (d2_I0 fun i j _ => .bl _) h2 g2⟩
theorem x_ge (ha : XE X b e1 Ta) (hb : XE X b e2 Tb) : XE X b (.Compare e1 [.GtE] [e2] pos) (d2 (vBl fun i j => decide (j ≤ i)) Ta Tb) := by
  obtain ⟨_, h1, h2⟩ := ha; obtain ⟨_, g1, g2⟩ := hb
  exact ⟨_, pe_cmpR op_ge h1 g1 (nomark _), de_op (d2_I0 fun i j _ => .bl _) h2 g2⟩
/-- a <= b <= c over ints -/
def dChI (p p' : Int → Int → Bool) (Ta Tb Tc : DT) : DT := fun γ P => Ta γ fun x => Tb γ fun y => match x, y with | .int i, .int j => (match p i j with | true => (Tc γ fun z => (match z with | .int k => P (.bl (p' j k)) | _ => False)) | false => P (.bl false)) | _, _ => False
theorem de_chain {p p' : Int → Int → Bool} {ta tb tc : TE} {Ta Tb Tc : DT} (ha : DE b ta Ta) (hb : DE b tb Tb) (hc : DE b tc Tc) : DE b (tChain (rI0 fun i j => .bl (p i j)) (rI0 fun i j => .bl (p' i j)) ta tb tc) (dChI p p' Ta Tb Tc) := fun P n t Q q =>
  ha _ n t _ fun v d F1 H1 x1 r1 t1 => hb _ (n.to x1) t1 _ fun w e F2 H2 x2 r2 t2 => by
    cases r1 <;> cases r2 <;> first | exact t2.elim | skip
    refine ⟨_, _, rfl, rfl, _, rfl, ?_⟩
    rename_i i j
    cases hp : p i j with
    | true =>
      simp only [hp, if_true] at t2 ⊢
      exact hc _ (n.to (x1.trans x2)) t2 _ fun u f F3 H3 x3 r3 t3 => by
        cases r3 <;> first | exact t3.elim | skip
        exact ⟨_, _, rfl, rfl, q _ _ F3 H3 ((x1.trans x2).trans x3) (.bl _) t3⟩
    | false =>
      simp only [hp] at t2 ⊢
      exact q _ _ F2 H2 (x1.trans x2) (.bl _) t2
theorem x_chLeLe (ha : XE X b e1 Ta) (hb : XE X b e2 Tb) (hc : XE X b e3 Tc) (hm : lastMarks [.LtE, .LtE] [e2, e3] = false := by with_unfolding_all rfl) : XE X b (.Compare e1 [.LtE, .LtE] [e2, e3] pos) (dChI (fun i j => decide (i ≤ j)) (fun i j => decide (i ≤ j)) Ta Tb Tc) := by
  obtain ⟨_, h1, h2⟩ := ha; obtain ⟨_, g1, g2⟩ := hb; obtain ⟨_, f1, f2⟩ := hc
  exact ⟨_, pe_chain op_le op_le h1 g1 f1 hm, de_chain h2 g2 f2⟩

/-! ### is None, is False -/
@[reducible] def isNo : Dt → Bool
  | .non => true
  | _ => false
@[reducible] def dIsN (Ta : DT) : DT := fun γ P => Ta γ fun x => P (.bl (isNo x))
theorem rep_non {F : Hp} {v : V} {d : Dt} (r : Rep b F v d) : decide (v = .non) = isNo d := by
  cases r <;> first | rfl | (apply decide_eq_false; intro z; cases z)
theorem x_isN {j p2} (ha : XE X b e1 Ta) : XE X b (.Compare e1 [.Is] [.Constant .none j p2] pos) (dIsN Ta) := by
  obtain ⟨_, h1, h2⟩ := ha
  exact ⟨_, pe_cmp (pc_isN h1) (by rfl), fun P n t Q q => h2 _ n t _ fun v d F1 H1 x1 r1 t1 => q _ _ F1 H1 x1 (by rw [rep_non r1]; exact .bl _) t1⟩
@[reducible] def dNotN (Ta : DT) : DT := fun γ P => Ta γ fun x => P (.bl (nB (isNo x)))
theorem x_notN {j p2} (ha : XE X b e1 Ta) : XE X b (.Compare e1 [.IsNot] [.Constant .none j p2] pos) (dNotN Ta) := by
  obtain ⟨_, h1, h2⟩ := ha
  refine ⟨_, pe_cmp (pc_notN h1) (by rfl), fun P n t Q q => h2 _ n t _ fun v d F1 H1 x1 r1 t1 => q _ _ F1 H1 x1 (by rw [rep_non r1, nB_eq]; exact .bl _) t1⟩
@[reducible] def vIsB (neg : Bool) (x y : Dt) (P : Dt → Prop) : Prop := match x, y with | .bl i, .bl j => P (.bl (match neg with | true => nB (eB i j) | false => eB i j)) | _, _ => False
theorem dec_eB (i j : Bool) : decide (i = j) = eB i j := by cases i <;> cases j <;> rfl
theorem d2_isB : D2 b rIsB (vIsB false) := fun {F H x y d e} P k r1 r2 t Q q => by
  cases r1 <;> cases r2 <;> first | exact t.elim | skip
  exact ⟨_, _, rfl, rfl, q _ _ F H (Ext.refl k) (by rw [dec_eB]; exact .bl _) t⟩
theorem d2_notB : D2 b rNotB (vIsB true) := fun {F H x y d e} P k r1 r2 t Q q => by
  cases r1 <;> cases r2 <;> first | exact t.elim | skip
  exact ⟨_, _, rfl, rfl, q _ _ F H (Ext.refl k) (by rw [dec_eB, nB_eq]; exact .bl _) t⟩
theorem x_isB (ha : XE X b e1 Ta) (hb : XE X b e2 Tb) : XE X b (.Compare e1 [.Is] [e2] pos) (d2 (vIsB false) Ta Tb) := by
  obtain ⟨_, h1, h2⟩ := ha; obtain ⟨_, g1, g2⟩ := hb
  exact ⟨_, pe_cmpR op_isBl h1 g1 (nomark _), de_op d2_isB h2 g2⟩
theorem x_notB (ha : XE X b e1 Ta) (hb : XE X b e2 Tb) : XE X b (.Compare e1 [.IsNot] [e2] pos) (d2 (vIsB true) Ta Tb) := by
  obtain ⟨_, h1, h2⟩ := ha; obtain ⟨_, g1, g2⟩ := hb
  exact ⟨_, pe_cmpR op_notBl h1 g1 (nomark _), de_op d2_notB h2 g2⟩

/-! ### == and != of data -/
mutual
def plain : Dt → Bool
  | .lst xs => plainL xs
  | .tup xs => plainL xs
  | .ins _ _ => false
  | .dT _ => false
  | .dK _ => false
  | .ptr _ => false
  | .bag => false
  | .exc _ _ => false
  | .lam _ _ => false
  | .clo _ _ => false
  | _ => true
def plainL : List Dt → Bool
  | [] => true
  | x :: xs => plain x && plainL xs
end
mutual
def py : Dt → PyData
  | .non => .none
  | .bl k => .bool k
  | .int i => .int i
  | .str x => .str x
  | .lst xs => .list (pyL xs)
  | .tup xs => .tuple (pyL xs)
  | _ => .none
def pyL : List Dt → List PyData
  | [] => []
  | x :: xs => py x :: pyL xs
end
section
variable {F H : Hp} {K : PySem.W.Frag}
mutual
theorem rep_dp (s : Sub F H) : ∀ {d : Dt} {v : V}, Rep b F v d → plain d = true → Dp K H v (py d)
  | .non, _, h, _ => by cases h; exact .non
  | .bl _, _, h, _ => by cases h; exact .bl _
  | .int _, _, h, _ => by cases h; exact .int _
  | .str _, _, h, _ => by cases h; exact .str _
  | .lst xs, _, h, p => by
    cases h with
    | lst e r => exact .lst (SqL.of (s _ _ e)) (rep_dpL s r p)
  | .tup xs, _, h, p => by
    cases h with
    | tup e r => exact .tup (SqT.of (s _ _ e)) (rep_dpL s r p)
  | .ins C fs, _, h, p => by cases p
  | .dT kvs, _, h, p => by cases p
  | .dK kvs, _, h, p => by cases p
  | .ptr _, _, h, p => by cases p
  | .bag, _, h, p => by cases p
  | .exc _ _, _, h, p => by cases p
  | .lam _ _, _, h, p => by cases p
  | .clo _ _, _, h, p => by cases p
theorem rep_dpL (s : Sub F H) : ∀ {ds : List Dt} {vs : List V}, RepL b F vs ds → plainL ds = true → DpAll K H vs (pyL ds)
  | [], _, h, _ => by cases h; exact .nil
  | d :: ds, _, h, p => by
    cases h with
    | cons r t =>
      have p2 : (plain d && plainL ds) = true := p
      rw [Bool.and_eq_true] at p2
      exact .cons (rep_dp s r p2.1) (rep_dpL s t p2.2)
end
end
def eqOk (x : Dt) : Bool := plain x && SeqAt.shaped (py x)
@[reducible] def xB : Bool → Bool → Bool
  | true, k => nB k
  | false, k => k
@[reducible] def vEq (neg : Bool) (x y : Dt) (P : Dt → Prop) : Prop := match x, y with
  | .bl i, .bl j => P (.bl (xB neg (eB i j)))
  | .int i, .int j => P (.bl (xB neg (decide (i = j))))
  | .str i, .str j => P (.bl (xB neg (decide (i = j))))
  | x, y => eqOk x = true ∧ eqOk y = true ∧ P (.bl (xB neg (PyData.eqv (py x) (py y))))
theorem dV_int (i j : Int) : decide (V.int i = V.int j) = decide (i = j) := by
  by_cases h : i = j
  · subst h; simp
  · rw [decide_eq_false h, decide_eq_false fun z => h (V.int.inj z)]
theorem dV_str (i j : Str) : decide (V.str i = V.str j) = decide (i = j) := by
  by_cases h : i = j
  · subst h; simp
  · rw [decide_eq_false h, decide_eq_false fun z => h (V.str.inj z)]
theorem dV_bl (i j : Bool) : decide (V.bl i = V.bl j) = eB i j := by cases i <;> cases j <;> rfl
theorem vEq_cases {F : Hp} {neg : Bool} {x y : V} {d e : Dt} {P : Dt → Prop} (r1 : Rep b F x d) (r2 : Rep b F y e) (t : vEq neg d e P) :
    (scal x y = true ∧ P (.bl (xB neg (decide (x = y))))) ∨ (eqOk d = true ∧ eqOk e = true ∧ P (.bl (xB neg (PyData.eqv (py d) (py e))))) := by
  cases r1 <;> cases r2 <;> first | exact .inr t | exact .inl ⟨rfl, by rw [dV_int]; exact t⟩ | exact .inl ⟨rfl, by rw [dV_str]; exact t⟩ | exact .inl ⟨rfl, by rw [dV_bl]; exact t⟩
theorem d2_eqD {K} : D2 b (fun x y H Q => rEq x y H Q ∨ rEqD K x y H Q) (vEq false) := fun {F H x y d e} P k r1 r2 t Q q => by
  rcases vEq_cases r1 r2 t with ⟨t1, t2⟩ | ⟨t1, t2, t3⟩
  · exact .inl ⟨t1, q _ _ F H (Ext.refl k) (.bl _) t2⟩
  · unfold eqOk at t1 t2
    rw [Bool.and_eq_true] at t1 t2
    exact .inr ⟨_, _, rep_dp k.1 r1 t1.1, rep_dp k.1 r2 t2.1, t1.2, t2.2, q _ _ F H (Ext.refl k) (.bl _) t3⟩
theorem d2_neD {K} : D2 b (fun x y H Q => rNe x y H Q ∨ rNeD K x y H Q) (vEq true) := fun {F H x y d e} P k r1 r2 t Q q => by
  rcases vEq_cases r1 r2 t with ⟨t1, t2⟩ | ⟨t1, t2, t3⟩
  · exact .inl ⟨t1, q _ _ F H (Ext.refl k) (by rw [nB_eq]; exact .bl _) t2⟩
  · unfold eqOk at t1 t2
    rw [Bool.and_eq_true] at t1 t2
    exact .inr ⟨_, _, rep_dp k.1 r1 t1.1, rep_dp k.1 r2 t2.1, t1.2, t2.2, q _ _ F H (Ext.refl k) (by rw [nB_eq]; exact .bl _) t3⟩
theorem x_eq (hu : X.A.units + 64 < cLine) (ha : XE X b e1 Ta) (hb : XE X b e2 Tb) : XE X b (.Compare e1 [.Eq] [e2] pos) (d2 (vEq false) Ta Tb) := by
  obtain ⟨_, h1, h2⟩ := ha; obtain ⟨_, g1, g2⟩ := hb
  exact ⟨_, pe_cmpR (op_eq.or (op_eqD hu)) h1 g1 (nomark _), de_op d2_eqD h2 g2⟩
theorem x_ne (hu : X.A.units + 64 < cLine) (ha : XE X b e1 Ta) (hb : XE X b e2 Tb) : XE X b (.Compare e1 [.NotEq] [e2] pos) (d2 (vEq true) Ta Tb) := by
  obtain ⟨_, h1, h2⟩ := ha; obtain ⟨_, g1, g2⟩ := hb
  exact ⟨_, pe_cmpR (op_ne.or (op_neD hu)) h1 g1 (nomark _), de_op d2_neD h2 g2⟩

/-! ### membership -/
def flatD : Dt → Bool
  | .non => true | .bl _ => true | .int _ => true | .str _ => true | _ => false
theorem flat_of {F : Hp} {v : V} {d : Dt} (r : Rep b F v d) : flatD d = true → flatV v = true := by
  cases r <;> intro h <;> first | rfl | cases h
theorem flat_all {F : Hp} : ∀ {ds : List Dt} {vs : List V}, RepL b F vs ds → ds.all flatD = true → vs.all flatV = true
  | [], _, h, _ => by cases h; rfl
  | d :: ds, _, h, p => by
    cases h with
    | cons r t =>
      rw [List.all_cons, Bool.and_eq_true] at p ⊢
      exact ⟨flat_of r p.1, flat_all t p.2⟩
def dv : Dt → V
  | .bl k => .bl k | .int i => .int i | .str x => .str x | _ => .non
theorem dv_of {F : Hp} {v : V} {d : Dt} (r : Rep b F v d) (f : flatD d = true) : v = dv d := by
  cases r <;> first | rfl | cases f
def inD (x : Dt) (xs : List Dt) : Bool := xs.any fun y => eqV (dv y) (dv x)
theorem inV_of {F : Hp} {v : V} {d : Dt} (r : Rep b F v d) (f : flatD d = true) : ∀ {ds : List Dt} {vs : List V}, RepL b F vs ds → ds.all flatD = true → inV v vs = inD d ds
  | [], _, h, _ => by cases h; rfl
  | z :: ds, _, h, p => by
    cases h with
    | cons r2 t =>
      rw [List.all_cons, Bool.and_eq_true] at p
      show (eqV _ v || inV v _) = (eqV (dv z) (dv d) || inD d ds)
      rw [inV_of r f t p.2, dv_of r2 p.1, dv_of r f]
@[reducible] def vIn (neg : Bool) (x y : Dt) (P : Dt → Prop) : Prop := match y with
  | .lst xs => flatD x = true ∧ xs.all flatD = true ∧ P (.bl (match neg with | true => nB (inD x xs) | false => inD x xs))
  | .tup xs => flatD x = true ∧ xs.all flatD = true ∧ P (.bl (match neg with | true => nB (inD x xs) | false => inD x xs))
  | _ => False
theorem d2_in {K} {neg : Bool} : D2 b (rIn K neg) (vIn neg) := fun {F H x y d e} P k r1 r2 t Q q => by
  cases r2 with
  | lst h r =>
    obtain ⟨t1, t2, t3⟩ := t
    refine ⟨_, _, rfl, .inl (SqL.of (k.1 _ _ h)), flat_of r1 t1, flat_all r t2, ?_⟩
    rw [inV_of r1 t1 r t2]
    refine q _ _ F H (Ext.refl k) ?_ t3
    cases neg with
    | true =>
      show Rep b F (.bl (!inD _ _)) (.bl (nB (inD _ _)))
      rw [nB_eq]
      exact .bl _
    | false => exact .bl _
  | tup h r =>
    obtain ⟨t1, t2, t3⟩ := t
    refine ⟨_, _, rfl, .inr (SqT.of (k.1 _ _ h)), flat_of r1 t1, flat_all r t2, ?_⟩
    rw [inV_of r1 t1 r t2]
    refine q _ _ F H (Ext.refl k) ?_ t3
    cases neg with
    | true =>
      show Rep b F (.bl (!inD _ _)) (.bl (nB (inD _ _)))
      rw [nB_eq]
      exact .bl _
    | false => exact .bl _
  | _ => exact t.elim
theorem x_in (ha : XE X b e1 Ta) (hb : XE X b e2 Tb) (hm : behindInMarks .In e2 = false := by rfl) : XE X b (.Compare e1 [.In] [e2] pos) (d2 (vIn false) Ta Tb) := by
  obtain ⟨_, h1, h2⟩ := ha; obtain ⟨_, g1, g2⟩ := hb
  exact ⟨_, pe_cmpR op_in_seq h1 g1 hm, de_op d2_in h2 g2⟩
theorem x_notIn (ha : XE X b e1 Ta) (hb : XE X b e2 Tb) (hm : behindInMarks .NotIn e2 = false := by rfl) : XE X b (.Compare e1 [.NotIn] [e2] pos) (d2 (vIn true) Ta Tb) := by
  obtain ⟨_, h1, h2⟩ := ha; obtain ⟨_, g1, g2⟩ := hb
  exact ⟨_, pe_cmpR op_notIn_seq h1 g1 hm, de_op d2_in h2 g2⟩
/-- one sign in a text -/
@[reducible] def vInS (x y : Dt) (P : Dt → Prop) : Prop := match x, y with
  | .str u, .str z => ∃ c, u = ⟨#[c]⟩ ∧ P (.bl (decide (c ∈ z.cps.toList)))
  | _, _ => False
theorem x_inS (ha : XE X b e1 Ta) (hb : XE X b e2 Tb) (hm : behindInMarks .In e2 = false := by rfl) : XE X b (.Compare e1 [.In] [e2] pos) (d2 vInS Ta Tb) := by
  obtain ⟨_, h1, h2⟩ := ha; obtain ⟨_, g1, g2⟩ := hb
  refine ⟨_, pe_cmpR op_in_sign h1 g1 hm, de_op (fun {F H x y d e} P k r1 r2 t Q q => ?_) h2 g2⟩
  cases r1 <;> cases r2 <;> first | exact t.elim | skip
  obtain ⟨c, rfl, t⟩ := t
  exact ⟨_, _, rfl, rfl, q _ _ F H (Ext.refl k) (.bl _) t⟩

/-! ### and, or, not, if -/
def dAnd (Ta Tb : DT) : DT := fun γ P => Ta γ fun x => match x with | .bl true => Tb γ P | .bl false => P (.bl false) | _ => False
def dOr (Ta Tb : DT) : DT := fun γ P => Ta γ fun x => match x with | .bl false => Tb γ P | .bl true => P (.bl true) | _ => False
@[reducible] def dNot (Ta : DT) : DT := fun γ P => Ta γ fun x => match x with | .bl k => P (.bl (nB k)) | _ => False
theorem x_and {r : List Expr} (ha : XE X b e1 Ta) (hb : XE X b (.BoolOp .And (e2 :: r) pos) Tb) : XE X b (.BoolOp .And (e1 :: e2 :: r) pos) (dAnd Ta Tb) := by
  obtain ⟨_, h1, h2⟩ := ha; obtain ⟨_, g1, g2⟩ := hb
  refine ⟨_, pe_and h1 g1, fun P n t Q q => h2 _ n t _ fun v d F1 H1 x1 r1 t1 => ?_⟩
  cases r1 <;> first | exact t1.elim | skip
  rename_i k
  refine ⟨k, rfl, ?_⟩
  cases k with
  | true => exact iteT (g2 _ (n.to x1) t1 _ fun u f F3 H3 x3 r3 p => q u f F3 H3 (x1.trans x3) r3 p)
  | false => exact iteF (q _ _ F1 H1 x1 (.bl _) t1)
theorem x_or {r : List Expr} (ha : XE X b e1 Ta) (hb : XE X b (.BoolOp .Or (e2 :: r) pos) Tb) : XE X b (.BoolOp .Or (e1 :: e2 :: r) pos) (dOr Ta Tb) := by
  obtain ⟨_, h1, h2⟩ := ha; obtain ⟨_, g1, g2⟩ := hb
  refine ⟨_, pe_or h1 g1, fun P n t Q q => h2 _ n t _ fun v d F1 H1 x1 r1 t1 => ?_⟩
  cases r1 <;> first | exact t1.elim | skip
  rename_i k
  refine ⟨k, rfl, ?_⟩
  cases k with
  | false => exact iteF (g2 _ (n.to x1) t1 _ fun u f F3 H3 x3 r3 p => q u f F3 H3 (x1.trans x3) r3 p)
  | true => exact iteT (q _ _ F1 H1 x1 (.bl _) t1)
theorem x_one {op} (ha : XE X b e Ta) : XE X b (.BoolOp op [e] pos) Ta := by
  obtain ⟨_, h1, h2⟩ := ha
  exact ⟨_, pe_one h1, h2⟩
theorem x_not (ha : XE X b e Ta) : XE X b (.UnaryOp .Not e pos) (dNot Ta) := by
  obtain ⟨_, h1, h2⟩ := ha
  refine ⟨_, pe_not h1, fun P n t Q q => h2 _ n t _ fun v d F1 H1 x1 r1 t1 => ?_⟩
  cases r1 <;> first | exact t1.elim | skip
  exact ⟨_, rfl, q _ _ F1 H1 x1 (by rw [nB_eq]; exact .bl _) t1⟩
@[reducible] def dNeg (Ta : DT) : DT := fun γ P => Ta γ fun x => match x with | .int k => P (.int (-k)) | _ => False
theorem x_neg (ha : XE X b e Ta) : XE X b (.UnaryOp .USub e pos) (dNeg Ta) := by
  obtain ⟨_, h1, h2⟩ := ha
  refine ⟨_, pe_un un_neg h1, fun P n t Q q => h2 _ n t _ fun v d F1 H1 x1 r1 t1 => ?_⟩
  cases r1 <;> first | exact t1.elim | skip
  exact ⟨_, rfl, q _ _ F1 H1 x1 (.int _) t1⟩
/-! tests -/
@[reducible] def tB1 (Ta : DT) : DBt := fun γ P => Ta γ fun x => match x with | .bl k => P k | _ => False
theorem db_val {te : TE} {Ta : DT} (h : DE b te Ta) : DB b (tB te) (tB1 Ta) := fun P n t Q q => h _ n t _ fun v d F1 H1 x1 r1 t1 => by
  cases r1 <;> first | exact t1.elim | skip
  exact ⟨_, rfl, q _ F1 H1 x1 t1⟩
theorem t_val (ha : XE X b e Ta) (he : ∀ whole, isTrue e X.env whole = (do let v ← whole; standAt e.pos; holding [v] (truthy v)) := by intro _; rfl) : XT X b e (tB1 Ta) := by
  obtain ⟨_, h1, h2⟩ := ha
  exact ⟨_, pt_val h1 he, db_val h2⟩
@[reducible] def bAnd (A B : DBt) : DBt := fun γ P => A γ fun c => (match c with | true => B γ P | false => P false)
@[reducible] def bOr (A B : DBt) : DBt := fun γ P => A γ fun c => (match c with | true => P true | false => B γ P)
@[reducible] def bNot (A : DBt) : DBt := fun γ P => A γ fun c => P (nB c)
theorem t_not (ha : XT X b e A) : XT X b (.UnaryOp .Not e pos) (bNot A) := by
  obtain ⟨_, h1, h2⟩ := ha
  exact ⟨_, pt_not h1, fun P n t Q q => h2 _ n t _ fun c F1 H1 x1 t1 => by
    rw [nB_eq]
    exact q _ F1 H1 x1 t1⟩
theorem w_and1 (ha : XT X b e A) : XW X b (.BoolOp .And [e] pos) A := by
  obtain ⟨_, h1, h2⟩ := ha
  exact ⟨_, pw_and1 h1, h2⟩
theorem w_or1 (ha : XT X b e A) : XW X b (.BoolOp .Or [e] pos) A := by
  obtain ⟨_, h1, h2⟩ := ha
  exact ⟨_, pw_or1 h1, h2⟩
theorem w_and {r : List Expr} (ha : XT X b e1 A) (hb : XW X b (.BoolOp .And (e2 :: r) pos) B) : XW X b (.BoolOp .And (e1 :: e2 :: r) pos) (bAnd A B) := by
  obtain ⟨_, h1, h2⟩ := ha; obtain ⟨_, g1, g2⟩ := hb
  refine ⟨_, pw_and h1 g1, fun P n t Q q => h2 _ n t _ fun c F1 H1 x1 t1 => ?_⟩
  cases c with
  | true =>
    exact iteT (g2 _ (n.to x1) t1 _ fun f F3 H3 x3 p => q f F3 H3 (x1.trans x3) p)
  | false =>
    exact iteF (q _ F1 H1 x1 t1)
theorem w_or {r : List Expr} (ha : XT X b e1 A) (hb : XW X b (.BoolOp .Or (e2 :: r) pos) B) : XW X b (.BoolOp .Or (e1 :: e2 :: r) pos) (bOr A B) := by
  obtain ⟨_, h1, h2⟩ := ha; obtain ⟨_, g1, g2⟩ := hb
  refine ⟨_, pw_or h1 g1, fun P n t Q q => h2 _ n t _ fun c F1 H1 x1 t1 => ?_⟩
  cases c with
  | false =>
    exact iteF (g2 _ (n.to x1) t1 _ fun f F3 H3 x3 p => q f F3 H3 (x1.trans x3) p)
  | true =>
    exact iteT (q _ F1 H1 x1 t1)
theorem t_w (ha : XW X b e A) : XT X b e A := by
  obtain ⟨_, h1, h2⟩ := ha
  exact ⟨_, h1.pt, h2⟩
/-- any value, by its truth -/
@[reducible] def vTru (x : Dt) (P : Bool → Prop) : Prop := match x with
  | .non => P false
  | .bl k => P k
  | .int i => P (i != 0)
  | .str y => y.length ≤ 100000 ∧ P ((y.length : Int) != 0)
  | .lst xs => P (!xs.isEmpty)
  | .tup xs => P (!xs.isEmpty)
  | _ => False
theorem isEmpty_rep {F : Hp} {vs : List V} {xs : List Dt} (r : RepL b F vs xs) : vs.isEmpty = xs.isEmpty := by
  cases r <;> rfl
theorem tru_of {F H : Hp} {K : PySem.W.Frag} {v : V} {d : Dt} {P : Bool → Prop} (s : Sub F H) (r : Rep b F v d) (t : vTru d P) : ∃ k, TruV K v H k ∧ P k := by
  cases r with
  | non => exact ⟨_, rfl, t⟩
  | bl k => exact ⟨_, rfl, t⟩
  | int i => exact ⟨_, rfl, t⟩
  | str x => exact ⟨_, ⟨Nat.le_trans t.1 (by decide), rfl⟩, t.2⟩
  | lst e r => exact ⟨_, .inl ⟨_, SqL.of (s _ _ e), rfl⟩, by rw [isEmpty_rep r]; exact t⟩
  | tup e r => exact ⟨_, .inr (.inl ⟨_, SqT.of (s _ _ e), rfl⟩), by rw [isEmpty_rep r]; exact t⟩
  | ins e r => exact t.elim
  | dT e r => exact t.elim
  | dK e r => exact t.elim
  | ptr _ => exact t.elim
  | bag e => exact t.elim
  | exc e e2 r => exact t.elim
  | lam e e2 k kd e3 => exact t.elim
  | clo e e2 k kd e3 e4 r => exact t.elim
@[reducible] def tTr (Ta : DT) : DBt := fun γ P => Ta γ fun x => vTru x P
theorem t_truth (ha : XE X b e Ta) (he : ∀ whole, isTrue e X.env whole = (do let v ← whole; standAt e.pos; holding [v] (truthy v)) := by intro _; rfl) : XT X b e (tTr Ta) := by
  obtain ⟨_, h1, h2⟩ := ha
  refine ⟨_, pt_truth h1 he, fun P n t Q q => h2 _ n t _ fun v d F1 H1 x1 r1 t1 => ?_⟩
  obtain ⟨k, a1, a2⟩ := tru_of (K := X.K) x1.sub r1 t1
  exact ⟨k, a1, q k F1 H1 x1 a2⟩
@[reducible] def dIf (A : DBt) (Ta Tb : DT) : DT := fun γ P => A γ fun c => (match c with | true => Ta γ P | false => Tb γ P)
theorem x_if (hc : XT X b e A) (ha : XE X b e1 Ta) (hb : XE X b e2 Tb) : XE X b (.IfExp e e1 e2 pos) (dIf A Ta Tb) := by
  obtain ⟨_, f1, f2⟩ := hc; obtain ⟨_, h1, h2⟩ := ha; obtain ⟨_, g1, g2⟩ := hb
  refine ⟨_, pe_ifExp f1 h1 g1, fun P n t Q q => f2 _ n t _ fun c F1 H1 x1 t1 => ?_⟩
  cases c with
  | true =>
    exact iteT (h2 _ (n.to x1) t1 _ fun u f F3 H3 x3 r3 p => q u f F3 H3 (x1.trans x3) r3 p)
  | false =>
    exact iteF (g2 _ (n.to x1) t1 _ fun u f F3 H3 x3 r3 p => q u f F3 H3 (x1.trans x3) r3 p)
end
end DL

namespace DL
open PySem PySem.Spec PyProof.Rows L2
section
variable {X : Cx} {b : Bg} {e e1 e2 e3 : Expr} {es : List Expr} {pos : Pos}
/-! ### arguments, displays -/
@[reducible] def aNil : DAt := fun _ P => P []
@[reducible] def aCons (Ta : DT) (Tr : DAt) : DAt := fun γ P => Ta γ fun x => Tr γ fun xs => P (x :: xs)
theorem a_nil : XA X b [] aNil := ⟨_, pa_nil, fun P n t Q q => q [] [] _ _ (Ext.refl n.ok) .nil t⟩
theorem da_cons {te : TE} {tr : TA} (h2 : DE b te Ta) (g2 : DA b tr Tr) : DA b (tCons te tr) (aCons Ta Tr) := fun P n t Q q => h2 _ n t _ fun v d F1 H1 x1 r1 t1 =>
  g2 _ (n.to x1) t1 _ fun vs ds F2 H2 x2 r2 t2 => q _ _ F2 H2 (x1.trans x2) (.cons (x2.mono r1) r2) t2
theorem a_cons (ha : XE X b e Ta) (hr : XA X b es Tr) (hs : starEach (e :: es) X.env = (false, eval e X.env) :: starEach es X.env := by rfl) : XA X b (e :: es) (aCons Ta Tr) := by
  obtain ⟨_, h1, h2⟩ := ha; obtain ⟨_, g1, g2⟩ := hr
  exact ⟨_, pa_cons h1 g1 hs, da_cons h2 g2⟩
theorem k_nil : XKw X b [] aNil := ⟨_, pk_nil, fun P n t Q q => q [] [] _ _ (Ext.refl n.ok) .nil t⟩
theorem k_cons {nm : Option Str} {kpos : Pos} {kws : List Keyword} (ha : XE X b e Ta) (hr : XKw X b kws Tr) : XKw X b (⟨nm, e, kpos⟩ :: kws) (aCons Ta Tr) := by
  obtain ⟨_, h1, h2⟩ := ha; obtain ⟨_, g1, g2⟩ := hr
  exact ⟨_, pk_cons h1 g1, da_cons h2 g2⟩
@[reducible] def dTup (Ta : DAt) : DT := fun γ P => Ta γ fun xs => xs.length ≤ 100000 ∧ P (.tup xs)
theorem x_tup {x1} (h : XA X b es Ta) : XE X b (.Tuple es x1 pos) (dTup Ta) := by
  obtain ⟨_, h1, h2⟩ := h
  refine ⟨_, pe_tup h1, fun P n t Q q => h2 _ n t _ fun vs ds F1 H1 x1 r1 t1 => ⟨Nat.le_trans (by rw [r1.length]; exact t1.1) (by decide), fun p hp => ?_⟩⟩
  exact q _ _ (upd F1 p (.tup vs)) _ (x1.trans (Ext.push x1.ok hp)) (.tup upd_same (r1.mono (Ext.push x1.ok hp).grow)) t1.2
@[reducible] def lDisp (Ta : DAt) : DAt := fun γ P => Ta γ fun xs => xs.length ≤ 100000 ∧ P xs
theorem l_lst (h : XA X b es Ta) : XL X b (.List es pos) (lDisp Ta) := by
  obtain ⟨_, h1, h2⟩ := h
  refine ⟨_, pe_lst h1, fun P n t Q q => h2 _ n t _ fun vs ds F1 H1 x1 r1 t1 => ⟨Nat.le_trans (by rw [r1.length]; exact t1.1) (by decide), fun p hp => ?_⟩⟩
  exact q p vs ds F1 _ (x1.trans (Ext.laid x1.ok hp)) (x1.back n.ok hp) upd_same (x1.ok.fF hp) r1 t1.2
/-- a new list as a value -/
@[reducible] def dL (Tl : DAt) : DT := fun γ P => Tl γ fun xs => P (.lst xs)
theorem de_l {te : TE} {Tl : DAt} (h : DLs b te Tl) : DE b te (dL Tl) := fun P n t Q q => h _ n t _ fun p vs xs F1 H1 x1 hp h1 hf r p1 => by
  have nb := n.ok.nb hp
  have x2 := x1.take hp nb h1
  exact q _ _ (upd F1 p (.lst vs)) H1 x2 (.lst upd_same (r.mono fun a u z => by rw [upd_ne (ne_of_none z hf)]; exact z)) p1
theorem x_l (h : XL X b e Tl) : XE X b e (dL Tl) := by
  obtain ⟨_, h1, h2⟩ := h
  exact ⟨_, h1, de_l h2⟩

/-! ### calls of the def's own kin -/
abbrev DSp := List Dt → (Dt → Prop) → Prop
def spD (b : Bg) (m : Nat) (T : DSp) : Sp := fun vs H Q _ => ∃ (F : Hp) (ds : List Dt) (P : Dt → Prop), Ok b F H ∧ RepL b F vs ds ∧ ds.length = m ∧ T ds P ∧ ∀ v d F' H', Ext b F H F' H' → Rep b F' v d → P d → Q v H'
@[reducible] def dCall (m : Nat) (T : DSp) (Ta : DAt) : DT := fun γ P => Ta γ fun ds => ds.length = m ∧ T ds P
theorem x_call {CX : CXT} {k : Nat} {f : Addr} {fd : FuncData} {ps : List Str} {x : Str} {p : Pos} {m : Nat} {T : DSp} {Ta : DAt} (F : FnOk X.prog X.w X.K X.mg X.base CX0 k f fd ps (spD b m T)) (hr : Room k X.A) (hg : Gl X x) (hm : X.mg x = some (.ref f)) (hk : PySem.W.keepIn X.K (.ref f) = true) (hb : Binds X.K fd ps [])
    (ha : XA X b (e :: es) Ta) (hdb : (x == ("__debug__" : Str)) = false := by decide) (he : starEach (e :: es) X.env = (false, eval e X.env) :: starEach es X.env := by rfl) (hpl : (backTo pos (starEach es X.env)).any (·.1) = false := by rfl) : XE X b (.Call (.Name x p) (e :: es) [] pos) (dCall m T Ta) := by
  obtain ⟨_, h1, h2⟩ := ha
  refine ⟨_, pe_call F hr hg hm hk hb .nil pass0 h1 hdb he hpl, fun P n t Q q => h2 _ n t _ fun vs ds F1 H1 x1 r1 t1 => ?_⟩
  show spD b m T (vs ++ []) H1 Q _
  rw [List.append_nil]
  exact ⟨F1, ds, P, x1.ok, r1, t1.1, t1.2, fun v d F' H' x r p1 => q v d F' H' (x1.trans x) r p1⟩
@[reducible] def dCallK (m : Nat) (T : DSp) (g : List Dt → List Dt → List Dt) (Ta Tk : DAt) : DT := fun γ P => Ta γ fun ds => Tk γ fun es => (g ds es).length = m ∧ T (g ds es) P
theorem x_callK {k : Nat} {f : Addr} {fd : FuncData} {ps ks : List Str} {x : Str} {p : Pos} {m : Nat} {T : DSp} {Ta Tk : DAt} {kws : List Keyword} {g : List Value → List Value → List Value} {gV : List V → List V → List V} {gD : List Dt → List Dt → List Dt}
    (F : FnOk X.prog X.w X.K X.mg X.base CX0 k f fd ps (spD b m T)) (hr : Room k X.A) (hg : Gl X x) (hm : X.mg x = some (.ref f)) (hk : PySem.W.keepIn X.K (.ref f) = true) (hb : KBinds X.K fd ps ks g gV) (hgd : ∀ {F : Hp} {vs zs : List V} {ds es : List Dt}, RepL b F vs ds → RepL b F zs es → RepL b F (gV vs zs) (gD ds es))
    (ha : XA X b (e :: es) Ta) (hkw : XKw X b kws Tk) (hall : (backToKw pos (keywordEach kws X.env)).all (·.1.isSome) = true := by rfl) (hks : (backToKw pos (keywordEach kws X.env)).filterMap (·.1) = ks := by rfl)
    (hdb : (x == ("__debug__" : Str)) = false := by decide) (he : starEach (e :: es) X.env = (false, eval e X.env) :: starEach es X.env := by rfl)
    (hpl : ((backTo pos (starEach (e :: es) X.env)).any (·.1) || (backToKw pos (keywordEach kws X.env)).any (·.1.isNone)) = false := by rfl) : XE X b (.Call (.Name x p) (e :: es) kws pos) (dCallK m T gD Ta Tk) := by
  obtain ⟨_, h1, h2⟩ := ha; obtain ⟨_, g1, g2⟩ := hkw
  refine ⟨_, pe_callK (E := E0) F hr hg hm hk hb pass0 h1 g1 hall hks hdb he hpl, fun P n t Q q => h2 _ n t _ fun vs ds F1 H1 x1 r1 t1 => g2 _ (n.to x1) t1 _ fun zs es F2 H2 x2 r2 t2 => ?_⟩
  exact ⟨F2, _, P, x2.ok, hgd (r1.mono x2.grow) r2, t2.1, t2.2, fun v d F' H' x r p1 => q v d F' H' ((x1.trans x2).trans x) r p1⟩
/-- f(k = v, ..) -/
theorem pe_callK0 {CX : CXT} {k : Nat} {f : Addr} {fd : FuncData} {ps ks : List Str} {sp : Sp} {E : L2.XK} {x : Str} {p : Pos} {kws : List Keyword} {tk : TA} {g : List Value → List Value → List Value} {gV : List V → List V → List V}
    (F : FnOk X.prog X.w X.K X.mg X.base CX k f fd ps sp) (hr : Room k X.A) (hg : Gl X x) (hm : X.mg x = some (.ref f)) (hk : PySem.W.keepIn X.K (.ref f) = true) (hb : KBinds X.K fd ps ks g gV) (hx : Passes CX X E)
    (hkw : PK X kws tk) (hall : (backToKw pos (keywordEach kws X.env)).all (·.1.isSome) = true := by rfl) (hks : (backToKw pos (keywordEach kws X.env)).filterMap (·.1) = ks := by rfl)
    (hdb : (x == ("__debug__" : Str)) = false := by decide) (hpl : ((backTo pos (starEach [] X.env)).any (·.1) || (backToKw pos (keywordEach kws X.env)).any (·.1.isNone)) = false := by rfl) : PE X (.Call (.Name x p) [] kws pos) (fun σ H Q => tk σ H fun zs H2 => sp (gV [] zs) H2 Q E) := by
  refine ⟨fun pins s σ H Q I h => ?_⟩
  refine wpAny_Call_Name_kw (ld_glob I hg hm ?_ hdb)
  refine PySem.W.callWith_KW0 (h₀ := X.base) I.ok.mod.kin hk hall ?_ hpl
  refine thn (hkw.run pos pins s σ H _ I h) fun ws s2 ⟨zs, H2, I2, rz, q2⟩ => ⟨I2.kIn, ?_⟩
  rw [hks]
  exact run_fnk F hr hb hx I2 .nil rz q2
theorem x_callK0 {k : Nat} {f : Addr} {fd : FuncData} {ps ks : List Str} {x : Str} {p : Pos} {m : Nat} {T : DSp} {Tk : DAt} {kws : List Keyword} {g : List Value → List Value → List Value} {gV : List V → List V → List V} {gD : List Dt → List Dt → List Dt}
    (F : FnOk X.prog X.w X.K X.mg X.base CX0 k f fd ps (spD b m T)) (hr : Room k X.A) (hg : Gl X x) (hm : X.mg x = some (.ref f)) (hk : PySem.W.keepIn X.K (.ref f) = true) (hb : KBinds X.K fd ps ks g gV) (hgd : ∀ {F : Hp} {vs zs : List V} {ds es : List Dt}, RepL b F vs ds → RepL b F zs es → RepL b F (gV vs zs) (gD ds es))
    (hkw : XKw X b kws Tk) (hall : (backToKw pos (keywordEach kws X.env)).all (·.1.isSome) = true := by rfl) (hks : (backToKw pos (keywordEach kws X.env)).filterMap (·.1) = ks := by rfl)
    (hdb : (x == ("__debug__" : Str)) = false := by decide) (hpl : ((backTo pos (starEach [] X.env)).any (·.1) || (backToKw pos (keywordEach kws X.env)).any (·.1.isNone)) = false := by rfl) : XE X b (.Call (.Name x p) [] kws pos) (dCallK m T gD aNil Tk) := by
  obtain ⟨_, g1, g2⟩ := hkw
  refine ⟨_, pe_callK0 (E := E0) F hr hg hm hk hb pass0 g1 hall hks hdb hpl, fun P n t Q q => g2 _ n t _ fun zs es F2 H2 x2 r2 t2 => ?_⟩
  exact ⟨F2, _, P, x2.ok, hgd .nil r2, t2.1, t2.2, fun v d F' H' x r p1 => q v d F' H' (x2.trans x) r p1⟩

/-! ### built-in functions by values -/
def DCr (b : Bg) (r : List V → Hp → VK → Prop) (T : DSp) : Prop := ∀ {F H : Hp} {vs : List V} {ds : List Dt} (P : Dt → Prop), Ok b F H → RepL b F vs ds → T ds P → ∀ Q : VK, (∀ v d F' H', Ext b F H F' H' → Rep b F' v d → P d → Q v H') → r vs H Q
@[reducible] def dBi (T : DSp) (Ta : DAt) : DT := fun γ P => Ta γ fun ds => T ds P
theorem de_cb {r : List V → Hp → VK → Prop} {T : DSp} {ta : TA} {Ta : DAt} (h : DCr b r T) (ha : DA b ta Ta) : DE b (tCB r ta) (dBi T Ta) := fun P n t Q q => ha _ n t _ fun vs ds F1 H1 x1 r1 t1 =>
  h P x1.ok r1 t1 Q fun v d F' H' x r p1 => q v d F' H' (x1.trans x) r p1
@[reducible] def bLen : DSp := fun ds P => match ds with
  | [.str z] => z.length ≤ 100000 ∧ P (.int z.length)
  | [.lst xs] => P (.int xs.length)
  | [.tup xs] => P (.int xs.length)
  | _ => False
theorem dcr_len {K : PySem.W.Frag} : DCr b (fun xs H Q => ∃ x n, xs = [x] ∧ LenV K x H n ∧ Q (.int n) H) bLen := fun {F H vs ds} P k r t Q q => by
  cases r with
  | nil => exact t.elim
  | cons r1 r2 =>
    cases r2 with
    | cons _ _ => cases r1 <;> exact t.elim
    | nil =>
      cases r1 with
      | str z => exact ⟨_, _, rfl, ⟨Nat.le_trans t.1 (by decide), rfl⟩, q _ _ F H (Ext.refl k) (.int _) t.2⟩
      | lst h r => exact ⟨_, _, rfl, .inl ⟨_, SqL.of (k.1 _ _ h), rfl⟩, q _ _ F H (Ext.refl k) (.int _) (by rw [r.length]; exact t)⟩
      | tup h r => exact ⟨_, _, rfl, .inr ⟨_, SqT.of (k.1 _ _ h), rfl⟩, q _ _ F H (Ext.refl k) (.int _) (by rw [r.length]; exact t)⟩
      | _ => exact t.elim
theorem x_len {p : Pos} (hg : Gl X "len") (hm : X.mg "len" = none) (ha : XA X b [e] Ta) (he : starEach [e] X.env = (false, eval e X.env) :: starEach [] X.env := by rfl) (hpl : (backTo pos (starEach [] X.env)).any (·.1) = false := by rfl) : XE X b (.Call (.Name "len" p) [e] [] pos) (dBi bLen Ta) := by
  obtain ⟨_, h1, h2⟩ := ha
  exact ⟨_, pe_callB call_len hg hm PySem.boot_len h1 (he := he) (hpl := hpl), de_cb dcr_len h2⟩
@[reducible] def bInt : DSp := fun ds P => match ds with
  | [.int i] => P (.int i)
  | [.bl k] => P (.int (if k then 1 else 0))
  | _ => False
theorem x_intOf {p : Pos} (hg : Gl X "int") (hm : X.mg "int" = none) (ha : XA X b [e] Ta) (he : starEach [e] X.env = (false, eval e X.env) :: starEach [] X.env := by rfl) (hpl : (backTo pos (starEach [] X.env)).any (·.1) = false := by rfl) : XE X b (.Call (.Name "int" p) [e] [] pos) (dBi bInt Ta) := by
  obtain ⟨_, h1, h2⟩ := ha
  refine ⟨_, pe_callTy call_int1 hg hm (by decide +kernel) h1 (he := he) (hpl := hpl), de_cb (fun {F H vs ds} P k r t Q q => ?_) h2⟩
  cases r with
  | nil => exact t.elim
  | cons r1 r2 =>
    cases r2 with
    | cons _ _ => cases r1 <;> exact t.elim
    | nil =>
      cases r1 with
      | int i => exact .inl ⟨_, rfl, q _ _ F H (Ext.refl k) (.int _) t⟩
      | bl i => exact .inr ⟨_, rfl, q _ _ F H (Ext.refl k) (.int _) t⟩
      | _ => exact t.elim
theorem repL_ints {F : Hp} : ∀ {ns : List Int} {vs : List V}, RepL b F vs (ns.map Dt.int) → vs = ns.map V.int
  | [], _, h => by cases h; rfl
  | n :: ns, _, h => by
    cases h with
    | cons r t => cases r; rw [repL_ints t] <;> rfl
theorem repL_bls {F : Hp} : ∀ {ns : List Bool} {vs : List V}, RepL b F vs (ns.map Dt.bl) → vs = ns.map V.bl
  | [], _, h => by cases h; rfl
  | n :: ns, _, h => by
    cases h with
    | cons r t => cases r; rw [repL_bls t] <;> rfl
theorem repL_strs {F : Hp} : ∀ {ns : List Str} {vs : List V}, RepL b F vs (ns.map Dt.str) → vs = ns.map V.str
  | [], _, h => by cases h; rfl
  | n :: ns, _, h => by
    cases h with
    | cons r t => cases r; rw [repL_strs t] <;> rfl
@[reducible] def bSum : DSp := fun ds P => ∃ ns : List Int, ds = [.lst (ns.map Dt.int)] ∧ P (.int ns.sum)
theorem x_sum {p : Pos} (hc : X.calm = true) (hg : Gl X "sum") (hm : X.mg "sum" = none) (ha : XA X b [e] Ta) (he : starEach [e] X.env = (false, eval e X.env) :: starEach [] X.env := by rfl) (hpl : (backTo pos (starEach [] X.env)).any (·.1) = false := by rfl) : XE X b (.Call (.Name "sum" p) [e] [] pos) (dBi bSum Ta) := by
  obtain ⟨_, h1, h2⟩ := ha
  refine ⟨_, pe_callB (cr_sum hc) hg hm (by decide +kernel) h1 (he := he) (hpl := hpl), de_cb (fun {F H vs ds} P k r t Q q => ?_) h2⟩
  obtain ⟨ns, rfl, t⟩ := t
  cases r with
  | cons r1 r2 =>
    cases r2
    cases r1 with
    | lst h r =>
      cases repL_ints r
      exact ⟨_, ns, rfl, SqL.of (k.1 _ _ h), q _ _ F H (Ext.refl k) (.int _) t⟩
@[reducible] def bAll : DSp := fun ds P => ∃ ns : List Bool, ds = [.lst (ns.map Dt.bl)] ∧ P (.bl (ns.all id))
theorem x_all {p : Pos} (hc : X.calm = true) (hg : Gl X "all") (hm : X.mg "all" = none) (ha : XA X b [e] Ta) (he : starEach [e] X.env = (false, eval e X.env) :: starEach [] X.env := by rfl) (hpl : (backTo pos (starEach [] X.env)).any (·.1) = false := by rfl) : XE X b (.Call (.Name "all" p) [e] [] pos) (dBi bAll Ta) := by
  obtain ⟨_, h1, h2⟩ := ha
  refine ⟨_, pe_callB (cr_all hc) hg hm (by decide +kernel) h1 (he := he) (hpl := hpl), de_cb (fun {F H vs ds} P k r t Q q => ?_) h2⟩
  obtain ⟨ns, rfl, t⟩ := t
  cases r with
  | cons r1 r2 =>
    cases r2
    cases r1 with
    | lst h r =>
      cases repL_bls r
      exact ⟨_, ns, rfl, SqL.of (k.1 _ _ h), q _ _ F H (Ext.refl k) (.bl _) t⟩
@[reducible] def bAny : DSp := fun ds P => ∃ ns : List Bool, ds = [.lst (ns.map Dt.bl)] ∧ P (.bl (ns.any id))
theorem x_any {p : Pos} (hc : X.calm = true) (hg : Gl X "any") (hm : X.mg "any" = none) (ha : XA X b [e] Ta) (he : starEach [e] X.env = (false, eval e X.env) :: starEach [] X.env := by rfl) (hpl : (backTo pos (starEach [] X.env)).any (·.1) = false := by rfl) : XE X b (.Call (.Name "any" p) [e] [] pos) (dBi bAny Ta) := by
  obtain ⟨_, h1, h2⟩ := ha
  refine ⟨_, pe_callB (cr_any hc) hg hm (by decide +kernel) h1 (he := he) (hpl := hpl), de_cb (fun {F H vs ds} P k r t Q q => ?_) h2⟩
  obtain ⟨ns, rfl, t⟩ := t
  cases r with
  | cons r1 r2 =>
    cases r2
    cases r1 with
    | lst h r =>
      cases repL_bls r
      exact ⟨_, ns, rfl, SqL.of (k.1 _ _ h), q _ _ F H (Ext.refl k) (.bl _) t⟩
@[reducible] def bTuple : DSp := fun ds P => match ds with
  | [.lst xs] => P (.tup xs)
  | [.tup xs] => P (.tup xs)
  | _ => False
theorem x_tupleOf {p : Pos} (hg : Gl X "tuple") (hm : X.mg "tuple" = none) (ha : XA X b [e] Ta) (he : starEach [e] X.env = (false, eval e X.env) :: starEach [] X.env := by rfl) (hpl : (backTo pos (starEach [] X.env)).any (·.1) = false := by rfl) : XE X b (.Call (.Name "tuple" p) [e] [] pos) (dBi bTuple Ta) := by
  obtain ⟨_, h1, h2⟩ := ha
  refine ⟨_, pe_callTy call_tuple_of hg hm (by decide +kernel) h1 (he := he) (hpl := hpl), de_cb (fun {F H vs ds} P k r t Q q => ?_) h2⟩
  cases r with
  | nil => exact t.elim
  | cons r1 r2 =>
    cases r2 with
    | cons _ _ => cases r1 <;> exact t.elim
    | nil =>
      cases r1 with
      | lst h r => exact ⟨_, _, rfl, .inl ⟨SqL.of (k.1 _ _ h), fun l hl => q _ _ _ _ (Ext.push k hl) (.tup upd_same (r.mono (Ext.push k hl).grow)) t⟩⟩
      | tup h r => exact ⟨_, _, rfl, .inr ⟨SqT.of (k.1 _ _ h), q _ _ F H (Ext.refl k) (.tup h r) t⟩⟩
      | _ => exact t.elim
@[reducible] def bList (ds : List Dt) (P : List Dt → Prop) : Prop := match ds with
  | [.lst xs] => P xs
  | [.tup xs] => P xs
  | _ => False
theorem l_listOf {p : Pos} (hg : Gl X "list") (hm : X.mg "list" = none) (ha : XA X b [e] Ta) (he : starEach [e] X.env = (false, eval e X.env) :: starEach [] X.env := by rfl) (hpl : (backTo pos (starEach [] X.env)).any (·.1) = false := by rfl) : XL X b (.Call (.Name "list" p) [e] [] pos) (fun γ P => Ta γ fun ds => bList ds P) := by
  obtain ⟨_, h1, h2⟩ := ha
  refine ⟨_, pe_callTy call_list_of hg hm (by decide +kernel) h1 (he := he) (hpl := hpl), fun P n t Q q => h2 _ n t _ fun vs ds F1 H1 x1 r t => ?_⟩
  cases r with
  | nil => exact t.elim
  | cons r1 r2 =>
    cases r2 with
    | cons _ _ => cases r1 <;> exact t.elim
    | nil =>
      cases r1 with
      | lst h r => exact ⟨_, _, rfl, .inl (SqL.of (x1.sub _ _ h)), fun l hl => q l _ _ F1 _ (x1.trans (Ext.laid x1.ok hl)) (x1.back n.ok hl) upd_same (x1.ok.fF hl) r t⟩
      | tup h r => exact ⟨_, _, rfl, .inr (SqT.of (x1.sub _ _ h)), fun l hl => q l _ _ F1 _ (x1.trans (Ext.laid x1.ok hl)) (x1.back n.ok hl) upd_same (x1.ok.fF hl) r t⟩
      | _ => exact t.elim

/-! ### isinstance of built-in types -/
def tyN : Dt → String
  | .non => "NoneType" | .bl _ => "bool" | .int _ => "int" | .str _ => "str" | .lst _ => "list" | .tup _ => "tuple" | .dT _ => "dict" | .dK _ => "dict" | _ => "?"
def isTy (d : Dt) (n : String) : Option Bool := kitB (tyN d) n
theorem ty_of {F H : Hp} {K : PySem.W.Frag} {v : V} {d : Dt} (s : Sub F H) (r : Rep b F v d) (h : tyN d ≠ "?") : TyX K H v (.type (tyN d)) := by
  cases r with
  | non => exact .base .non
  | bl k => exact .base (.bl k)
  | int k => exact .base (.int k)
  | str k => exact .base (.str k)
  | lst e r => exact .base (.lst (s _ _ e))
  | tup e r => exact .base (.tup (s _ _ e))
  | dT e r => exact .base (.dT (s _ _ e))
  | dK e r => exact .base (.dK (s _ _ e))
  | ptr _ => exact (h rfl).elim
  | ins e r => exact (h rfl).elim
  | bag e => exact (h rfl).elim
  | exc e e2 r => exact (h rfl).elim
  | lam e e2 k kd e3 => exact (h rfl).elim
  | clo e e2 k kd e3 e4 r => exact (h rfl).elim
inductive Tk where
  | kint | kbool | kstr | klist | ktuple
def tkS : Tk → String
  | .kint => "int" | .kbool => "bool" | .kstr => "str" | .klist => "list" | .ktuple => "tuple"
@[reducible] def isB : Tk → Dt → Bool
  | .kint, .bl _ => true
  | .kint, .int _ => true
  | .kbool, .bl _ => true
  | .kstr, .str _ => true
  | .klist, .lst _ => true
  | .ktuple, .tup _ => true
  | _, _ => false
def KitOk (n : Tk) : Prop := ∀ d, tyN d ≠ "?" → kitB (tyN d) (tkS n) = some (isB n d)
theorem kitOk_by {n : Tk} (h0 : kitB "NoneType" (tkS n) = some (isB n .non)) (h1 : kitB "bool" (tkS n) = some (isB n (.bl true))) (h2 : kitB "int" (tkS n) = some (isB n (.int 0))) (h3 : kitB "str" (tkS n) = some (isB n (.str Str.empty)))
    (h4 : kitB "list" (tkS n) = some (isB n (.lst []))) (h5 : kitB "tuple" (tkS n) = some (isB n (.tup []))) (h6 : kitB "dict" (tkS n) = some (isB n (.dT []))) : KitOk n
  | .non, _ => h0
  | .bl k, _ => h1.trans (congrArg some (show isB n (.bl true) = isB n (.bl k) by cases n <;> rfl))
  | .int k, _ => h2.trans (congrArg some (show isB n (.int 0) = isB n (.int k) by cases n <;> rfl))
  | .str k, _ => h3.trans (congrArg some (show isB n (.str Str.empty) = isB n (.str k) by cases n <;> rfl))
  | .lst k, _ => h4.trans (congrArg some (show isB n (.lst []) = isB n (.lst k) by cases n <;> rfl))
  | .tup k, _ => h5.trans (congrArg some (show isB n (.tup []) = isB n (.tup k) by cases n <;> rfl))
  | .dT k, _ => h6.trans (congrArg some (show isB n (.dT []) = isB n (.dT k) by cases n <;> rfl))
  | .dK k, _ => h6.trans (congrArg some (show isB n (.dT []) = isB n (.dK k) by cases n <;> rfl))
  | .ins _ _, h => (h rfl).elim
  | .ptr _, h => (h rfl).elim
  | .bag, h => (h rfl).elim
  | .exc _ _, h => (h rfl).elim
  | .lam _ _, h => (h rfl).elim
  | .clo _ _, h => (h rfl).elim
theorem kit_kint : KitOk .kint := kitOk_by (by decide +kernel) (by decide +kernel) (by decide +kernel) (by decide +kernel) (by decide +kernel) (by decide +kernel) (by decide +kernel) 
theorem kit_kbool : KitOk .kbool := kitOk_by (by decide +kernel) (by decide +kernel) (by decide +kernel) (by decide +kernel) (by decide +kernel) (by decide +kernel) (by decide +kernel) 
theorem kit_kstr : KitOk .kstr := kitOk_by (by decide +kernel) (by decide +kernel) (by decide +kernel) (by decide +kernel) (by decide +kernel) (by decide +kernel) (by decide +kernel) 
theorem kit_klist : KitOk .klist := kitOk_by (by decide +kernel) (by decide +kernel) (by decide +kernel) (by decide +kernel) (by decide +kernel) (by decide +kernel) (by decide +kernel) 
theorem kit_ktuple : KitOk .ktuple := kitOk_by (by decide +kernel) (by decide +kernel) (by decide +kernel) (by decide +kernel) (by decide +kernel) (by decide +kernel) (by decide +kernel) 
@[reducible] def known : Dt → Bool
  | .ins _ _ => false | .ptr _ => false | .bag => false | .exc _ _ => false | .lam _ _ => false | .clo _ _ => false | _ => true
theorem known_ty : ∀ {d : Dt}, known d = true → tyN d ≠ "?"
  | .non, _ => show "NoneType" ≠ "?" by decide
  | .bl _, _ => show "bool" ≠ "?" by decide
  | .int _, _ => show "int" ≠ "?" by decide
  | .str _, _ => show "str" ≠ "?" by decide
  | .lst _, _ => show "list" ≠ "?" by decide
  | .tup _, _ => show "tuple" ≠ "?" by decide
  | .dT _, _ => show "dict" ≠ "?" by decide
  | .dK _, _ => show "dict" ≠ "?" by decide
@[reducible] def dIsi1 (n : Tk) (Ta : DT) : DT := fun γ P => Ta γ fun x => known x = true ∧ P (.bl (isB n x))
@[reducible] def dIsi (n1 n2 : Tk) (Ta : DT) : DT := fun γ P => Ta γ fun x => known x = true ∧ P (.bl (oB (isB n1 x) (isB n2 x)))
theorem x_isi1 {p q : Pos} {c : Str} {n : Tk} (hk : KitOk n) (hg : Gl X "isinstance") (hm : X.mg "isinstance" = none) (hgc : Gl X c) (hmc : X.mg c = none) (hv : bootBuiltins c = some (.type (tkS n))) (ha : XE X b e Ta) (hn : c ≠ "__name__" := by decide) (hd : (c == ("__debug__" : Str)) = false := by decide)
    (he : starEach [e, .Name c q] X.env = (false, eval e X.env) :: starEach [.Name c q] X.env := by rfl) (hpl : (backTo pos (starEach [.Name c q] X.env)).any (·.1) = false := by rfl) (he2 : starEach [.Name c q] X.env = (false, eval (.Name c q) X.env) :: starEach [] X.env := by rfl) : XE X b (.Call (.Name "isinstance" p) [e, .Name c q] [] pos) (dIsi1 n Ta) := by
  obtain ⟨_, h1, h2⟩ := ha
  refine ⟨_, pe_callB call_isi hg hm (by decide +kernel) (pa_cons h1 (pa_cons (pe_bltn (v := .ty (tkS n)) hgc hmc hv rfl hn hd) pa_nil he2) he) (he := he) (hpl := hpl), fun P n t Q q => h2 _ n t _ fun v d F1 H1 x1 r1 t1 => ?_⟩
  obtain ⟨hq, t1⟩ := t1
  exact ⟨_, _, _, _, _, rfl, .ty _, ty_of x1.sub r1 (known_ty hq), kit_ty (hk d (known_ty hq)), q _ _ F1 H1 x1 (.bl _) t1⟩
theorem x_isi2 {p q1 q2 q3 : Pos} {c1 c2 : Str} {n1 n2 : Tk} {x1} (hk1 : KitOk n1) (hk2 : KitOk n2) (hg : Gl X "isinstance") (hm : X.mg "isinstance" = none) (hg1 : Gl X c1) (hm1 : X.mg c1 = none) (hv1 : bootBuiltins c1 = some (.type (tkS n1))) (hg2 : Gl X c2) (hm2 : X.mg c2 = none) (hv2 : bootBuiltins c2 = some (.type (tkS n2))) (ha : XE X b e Ta)
    (hn1 : c1 ≠ "__name__" := by decide) (hd1 : (c1 == ("__debug__" : Str)) = false := by decide) (hn2 : c2 ≠ "__name__" := by decide) (hd2 : (c2 == ("__debug__" : Str)) = false := by decide)
    (he : starEach [e, .Tuple [.Name c1 q1, .Name c2 q2] x1 q3] X.env = (false, eval e X.env) :: starEach [.Tuple [.Name c1 q1, .Name c2 q2] x1 q3] X.env := by rfl) (hpl : (backTo pos (starEach [.Tuple [.Name c1 q1, .Name c2 q2] x1 q3] X.env)).any (·.1) = false := by rfl)
    (he2 : starEach [.Tuple [.Name c1 q1, .Name c2 q2] x1 q3] X.env = (false, eval (.Tuple [.Name c1 q1, .Name c2 q2] x1 q3) X.env) :: starEach [] X.env := by rfl) (he3 : starEach [.Name c1 q1, .Name c2 q2] X.env = (false, eval (.Name c1 q1) X.env) :: starEach [.Name c2 q2] X.env := by rfl) (he4 : starEach [.Name c2 q2] X.env = (false, eval (.Name c2 q2) X.env) :: starEach [] X.env := by rfl) :
    XE X b (.Call (.Name "isinstance" p) [e, .Tuple [.Name c1 q1, .Name c2 q2] x1 q3] [] pos) (dIsi n1 n2 Ta) := by
  obtain ⟨_, h1, h2⟩ := ha
  refine ⟨_, pe_callB call_isiT hg hm (by decide +kernel) (pa_cons h1 (pa_cons (pe_tup (pa_cons (pe_bltn (v := .ty (tkS n1)) hg1 hm1 hv1 rfl hn1 hd1) (pa_cons (pe_bltn (v := .ty (tkS n2)) hg2 hm2 hv2 rfl hn2 hd2) pa_nil he4) he3)) pa_nil he2) he) (he := he) (hpl := hpl), fun P n t Q q => h2 _ n t _ fun v d F1 H1 x1 r1 t1 => ?_⟩
  obtain ⟨hq, t1⟩ := t1
  refine ⟨by show 2 ≤ sizeLine; decide, fun p hp => ?_⟩
  have x2 := Ext.laid (o := .tup [.ty (tkS n1), .ty (tkS n2)]) x1.ok hp
  refine ⟨_, _, _, _, _, _, rfl, upd_same, .cons (.ty _) (.cons (.ty _) .nil), ty_of x2.sub r1 (known_ty hq), kitAny_cons (kit_ty (hk1 d (known_ty hq))) (fun h => kitAny_cons (kit_ty (hk2 d (known_ty hq))) (fun h' => ?_) (fun h' => ?_)) (fun h => ?_), q _ _ F1 _ (x1.trans x2) (.bl _) t1⟩
  · rw [h, h']; exact kitAny_nil
  · rw [h, h']
  · rw [h]

/-! ### items, slices, join, + -/
@[reducible] def vIx (x y : Dt) (P : Dt → Prop) : Prop := match x, y with
  | .lst xs, .int i => ∃ v, atI xs i = some v ∧ P v
  | .tup xs, .int i => ∃ v, atI xs i = some v ∧ P v
  | .str z, .int i => z.length ≤ 100000 ∧ ∃ c, atI z.cps.toList i = some c ∧ P (.str ⟨#[c]⟩)
  | _, _ => False
theorem atI_rep {F : Hp} {vs : List V} {xs : List Dt} {i : Int} {d : Dt} (r : RepL b F vs xs) (h : atI xs i = some d) : ∃ v, atI vs i = some v ∧ Rep b F v d := by
  unfold atI at h ⊢
  rw [r.length]
  cases e : ixN xs.length i with
  | none => rw [e] at h; cases h
  | some j =>
    rw [e] at h
    exact r.get' h
theorem d2_ix {K : PySem.W.Frag} : D2 b (rIx K) vIx := fun {F H x y d e} P k r1 r2 t Q q => by
  cases r1 with
  | lst h r =>
    cases r2 <;> first | exact t.elim | skip
    obtain ⟨v, t1, t2⟩ := t
    obtain ⟨u, a1, a2⟩ := atI_rep r t1
    exact .inl ⟨_, _, _, _, rfl, rfl, SqL.of (k.1 _ _ h), a1, q _ _ F H (Ext.refl k) a2 t2⟩
  | tup h r =>
    cases r2 <;> first | exact t.elim | skip
    obtain ⟨v, t1, t2⟩ := t
    obtain ⟨u, a1, a2⟩ := atI_rep r t1
    exact .inr (.inl ⟨_, _, _, _, rfl, rfl, SqT.of (k.1 _ _ h), a1, q _ _ F H (Ext.refl k) a2 t2⟩)
  | str z =>
    cases r2 <;> first | exact t.elim | skip
    obtain ⟨t0, v, t1, t2⟩ := t
    exact .inr (.inr ⟨_, _, _, rfl, rfl, Nat.le_trans t0 (by decide), t1, q _ _ F H (Ext.refl k) (.str _) t2⟩)
  | _ => cases r2 <;> exact t.elim
theorem x_ix (ha : XE X b e1 Ta) (hb : XE X b e2 Tb) (hs : PlainIx e2 := by exact fun _ _ => rfl) : XE X b (.Subscript e1 e2 pos) (d2 vIx Ta Tb) := by
  obtain ⟨_, h1, h2⟩ := ha; obtain ⟨_, g1, g2⟩ := hb
  exact ⟨_, pe_ix ix_seq h1 g1 hs, de_op d2_ix h2 g2⟩
abbrev DOt := Gm → (Option Int → Prop) → Prop
structure XO (X : Cx) (b : Bg) (e : Option Expr) (T : DOt) : Prop where
  ex : ∃ te, PO X e te ∧ ∀ {Fm F0 H0 F H : Hp} {σ : L2.St} {γ : Gm} (P : Option Int → Prop), Nv b Fm F0 H0 F H σ γ → T γ P → ∀ Q : Option Int → Hp → Prop, (∀ o F' H', Ext b F H F' H' → P o → Q o H') → te σ H Q
theorem o_none : XO X b none (fun _ P => P none) := ⟨_, po_none, fun P n t Q q => q none _ _ (Ext.refl n.ok) t⟩
@[reducible] def oSome (Ta : DT) : DOt := fun γ P => Ta γ fun x => match x with | .int i => P (some i) | _ => False
theorem o_some (h : XE X b e Ta) : XO X b (some e) (oSome Ta) := by
  obtain ⟨_, h1, h2⟩ := h
  refine ⟨_, po_some h1, fun P n t Q q => h2 _ n t _ fun v d F1 H1 x1 r1 t1 => ?_⟩
  cases r1 <;> first | exact t1.elim | skip
  exact ⟨_, rfl, q _ F1 H1 x1 t1⟩
/-- a slice of a text -/
@[reducible] def dSlS (Ta : DT) (Tl Th : DOt) : DT := fun γ P => Ta γ fun x => Tl γ fun lo => Th γ fun hi => match x with | .str z => z.length ≤ 100000 ∧ P (.str (cutS z lo hi)) | _ => False
theorem x_slS {lo hi : Option Expr} {p2 : Pos} (ha : XE X b e Ta) (hl : XO X b lo Tl) (hh : XO X b hi Th) : XE X b (.Subscript e (.Slice lo hi none p2) pos) (dSlS Ta Tl Th) := by
  obtain ⟨_, h1, h2⟩ := ha; obtain ⟨_, g1, g2⟩ := hl; obtain ⟨_, f1, f2⟩ := hh
  refine ⟨_, pe_slice sl_str h1 g1 f1, fun P n t Q q => h2 _ n t _ fun v d F1 H1 x1 r1 t1 => g2 _ (n.to x1) t1 _ fun o F2 H2 x2 t2 => f2 _ (n.to (x1.trans x2)) t2 _ fun u F3 H3 x3 t3 => ?_⟩
  cases r1 <;> first | exact t3.elim | skip
  exact ⟨_, rfl, Nat.le_trans t3.1 (by decide), q _ _ F3 H3 ((x1.trans x2).trans x3) (.str _) t3.2⟩
def cutD (xs : List Dt) (lo hi : Option Int) : List Dt := (xs.drop (HT.sIx xs.length 0 lo)).take (HT.sIx xs.length xs.length hi - HT.sIx xs.length 0 lo)
theorem cut_rep {F : Hp} {vs : List V} {xs : List Dt} {lo hi : Option Int} (r : RepL b F vs xs) : RepL b F (cutV vs lo hi) (cutD xs lo hi) := by
  unfold cutV cutD
  rw [r.length]
  exact (r.drop _).take _
/-- a slice of a list, new -/
theorem l_sl {lo hi : Option Expr} {p2 : Pos} (ha : XE X b e Ta) (hl : XO X b lo Tl) (hh : XO X b hi Th) : XL X b (.Subscript e (.Slice lo hi none p2) pos) (fun γ P => Ta γ fun x => Tl γ fun lo => Th γ fun hi => match x with | .lst z => P (cutD z lo hi) | _ => False) := by
  obtain ⟨_, h1, h2⟩ := ha; obtain ⟨_, g1, g2⟩ := hl; obtain ⟨_, f1, f2⟩ := hh
  refine ⟨_, pe_slice sl_list h1 g1 f1, fun P n t Q q => h2 _ n t _ fun v d F1 H1 x1 r1 t1 => g2 _ (n.to x1) t1 _ fun o F2 H2 x2 t2 => f2 _ (n.to (x1.trans x2)) t2 _ fun u F3 H3 x3 t3 => ?_⟩
  cases r1 <;> first | exact t3.elim | skip
  rename_i hh r
  have x := (x1.trans x2).trans x3
  refine ⟨_, _, rfl, SqL.of (x.sub _ _ (x3.grow _ _ (x2.grow _ _ hh))), fun p hp => ?_⟩
  exact q p _ _ F3 _ (x.trans (Ext.laid x.ok hp)) (x.back n.ok hp) upd_same (x.ok.fF hp) (cut_rep (r.mono (x2.grow.trans x3.grow))) t3
@[reducible] def vJoin (a : Str) (x : Dt) (P : Dt → Prop) : Prop := ∃ ys : List Str, x = .lst (ys.map Dt.str) ∧ (ys.map (·.length)).sum + ys.length * a.length ≤ 100000 ∧ P (.str (Txt.join a ys))
theorem x_join {apos : Pos} {j : Nat} {p1 : Pos} {a : Str} (ha : XE X b e Ta) (hs : starEach [e] X.env = [(false, eval e X.env)] := by rfl) (hbase : attributeBase (.Constant (.str a) j p1) "join" X.env (eval (.Constant (.str a) j p1) X.env) = eval (.Constant (.str a) j p1) X.env := by rfl) (hline : (apos.endLine == pos.line) = true := by rfl) :
    XE X b (.Call (.Attribute (.Constant (.str a) j p1) "join" apos) [e] [] pos) (fun γ P => Ta γ fun x => vJoin a x P) := by
  obtain ⟨_, h1, h2⟩ := ha
  refine ⟨_, pe_join pe_str h1 hs hbase hline, fun P n t Q q => ⟨⟨_, rfl⟩, h2 _ n t _ fun v d F1 H1 x1 r1 t1 => ?_⟩⟩
  obtain ⟨ys, rfl, t2, t3⟩ := t1
  cases r1 with
  | lst h r =>
    cases repL_strs r
    exact ⟨_, _, ys, rfl, rfl, .inl (SqL.of (x1.sub _ _ h)), Nat.le_trans t2 (by decide), q _ _ F1 H1 x1 (.str _) t3⟩
@[reducible] def vAddS (x y : Dt) (P : Dt → Prop) : Prop := match x, y with | .str u, .str z => u.length + z.length ≤ 100000 ∧ P (.str (u ++ z)) | _, _ => False
theorem x_addS (ha : XE X b e1 Ta) (hb : XE X b e2 Tb) : XE X b (.BinOp e1 .Add e2 pos) (d2 vAddS Ta Tb) := by
  obtain ⟨_, h1, h2⟩ := ha; obtain ⟨_, g1, g2⟩ := hb
  refine ⟨_, pe_op op_add_str h1 g1, de_op (fun {F H x y d e} P k r1 r2 t Q q => ?_) h2 g2⟩
  cases r1 <;> cases r2 <;> first | exact t.elim | skip
  exact ⟨_, _, rfl, rfl, Nat.le_trans t.1 (by decide), q _ _ F H (Ext.refl k) (.str _) t.2⟩
@[reducible] def vAddL (x y : Dt) (P : Dt → Prop) : Prop := match x, y with | .lst u, .lst z => u.length + z.length ≤ 100000 ∧ P (.lst (u ++ z)) | _, _ => False
theorem x_addL (ha : XE X b e1 Ta) (hb : XE X b e2 Tb) : XE X b (.BinOp e1 .Add e2 pos) (d2 vAddL Ta Tb) := by
  obtain ⟨_, h1, h2⟩ := ha; obtain ⟨_, g1, g2⟩ := hb
  refine ⟨_, pe_op op_cat h1 g1, de_op (fun {F H x y d e} P k r1 r2 t Q q => ?_) h2 g2⟩
  cases r1 <;> cases r2 <;> first | exact t.elim | skip
  rename_i h1 r1 _ _ _ h2 r2
  refine ⟨_, _, _, _, rfl, rfl, k.1 _ _ h1, k.1 _ _ h2, Nat.le_trans (by rw [r1.length, r2.length]; exact t.1) (by decide), fun p hp => ?_⟩
  exact q _ _ _ _ (Ext.push k hp) (.lst upd_same ((r1.append r2).mono (Ext.push k hp).grow)) t.2
@[reducible] def vRep (x y : Dt) (P : Dt → Prop) : Prop := match x, y with | .lst u, .int k => 0 ≤ k ∧ k ≤ 1000 ∧ u.length ≤ 10 ∧ P (.lst (List.replicate k.toNat u).flatten) | _, _ => False
theorem rep_rep {F : Hp} {vs : List V} {xs : List Dt} (r : RepL b F vs xs) : ∀ k : Nat, RepL b F (List.replicate k vs).flatten (List.replicate k xs).flatten
  | 0 => .nil
  | k + 1 => by
    rw [List.replicate_succ, List.replicate_succ, List.flatten_cons, List.flatten_cons]
    exact r.append (rep_rep r k)
theorem x_rep (ha : XE X b e1 Ta) (hb : XE X b e2 Tb) : XE X b (.BinOp e1 .Mult e2 pos) (d2 vRep Ta Tb) := by
  obtain ⟨_, h1, h2⟩ := ha; obtain ⟨_, g1, g2⟩ := hb
  refine ⟨_, pe_op op_rep h1 g1, de_op (fun {F H x y d e} P k r1 r2 t Q q => ?_) h2 g2⟩
  cases r1 <;> cases r2 <;> first | exact t.elim | skip
  rename_i h1 r1 j
  obtain ⟨t1, t2, t3, t4⟩ := t
  refine ⟨_, _, _, rfl, rfl, k.1 _ _ h1, by omega, by omega, ?_, fun p hp => ?_⟩
  · rw [r1.length, sizeLine_eq]
    have h5 : j.toNat ≤ 1000 := by omega
    exact Nat.le_trans (Nat.mul_le_mul t3 h5) (by decide)
  · exact q _ _ _ _ (Ext.push k hp) (.lst upd_same ((rep_rep r1 _).mono (Ext.push k hp).grow)) t4
end
end DL

namespace DL
open PySem PySem.Spec PyProof.Rows L2
open RZ (ItzT iZipA pi_zipA)
section
variable {X : Cx} {b : Bg} {e e1 e2 e3 tg : Expr} {es : List Expr} {pos : Pos} {K : PySem.W.Frag} {Fx : Hp}
/-! ### what is walked -/
theorem get_map_of {α : Type} {l : List α} {f : α → Dt} {i : Nat} {x : α} (h : l[i]? = some x) : (l.map f)[i]? = some (f x) := by rw [List.getElem?_map, h]; rfl
theorem walkd_list {a : Addr} {vs : List V} {xs : List Dt} (h : Fx a = some (.lst vs)) (r : RepL b Fx vs xs) : WalkD b (Itl K a) Fx xs := by
  refine ⟨_, by rw [← r.length]; exact (walk_list (K := K) (a := a) (xs := vs)).mono (fun H s => SqL.of (s _ _ h)) (fun i H x H' _ _ y => y), fun i H x H' hi y => ?_⟩
  obtain ⟨e, y⟩ := y
  obtain ⟨d, g1, g2⟩ := r.get y
  exact ⟨d, g1, .inl ⟨e, g2⟩⟩
theorem walkd_tup {a : Addr} {vs : List V} {xs : List Dt} (h : Fx a = some (.tup vs)) (r : RepL b Fx vs xs) : WalkD b (Itt K a) Fx xs := by
  refine ⟨_, by rw [← r.length]; exact (walk_tup (K := K) (a := a) (xs := vs)).mono (fun H s => SqT.of (s _ _ h)) (fun i H x H' _ _ y => y), fun i H x H' hi y => ?_⟩
  obtain ⟨e, y⟩ := y
  obtain ⟨d, g1, g2⟩ := r.get y
  exact ⟨d, g1, .inl ⟨e, g2⟩⟩
def rngD (lo : Int) (n : Nat) : List Dt := (List.range n).map fun i => .int (lo + (i : Nat))
theorem rngD_len (lo : Int) (n : Nat) : (rngD lo n).length = n := by unfold rngD; rw [List.length_map, List.length_range]
theorem rngD_get {lo : Int} {n i : Nat} (h : i < n) : (rngD lo n)[i]? = some (.int (lo + (i : Nat))) := get_map_of (f := fun i : Nat => Dt.int (lo + (i : Nat))) (by simp [h])
theorem rngD_at {lo : Int} {n i : Nat} {d : Dt} (h : (rngD lo n)[i]? = some d) : i < n ∧ d = .int (lo + (i : Nat)) := by
  have hi : i < n := by
    have := (List.getElem?_eq_some_iff.mp h).1
    rw [rngD_len] at this
    exact this
  rw [rngD_get hi] at h
  exact ⟨hi, (Option.some.inj h).symm⟩
theorem walkd_range {lo : Int} {n : Nat} : WalkD b (Itr lo n) Fx (rngD lo n) := by
  refine ⟨_, by rw [rngD_len]; exact (walk_range (lo := lo) (n := n)).mono (fun _ _ => trivial) (fun i H x H' _ _ y => y), fun i H x H' hi y => ?_⟩
  obtain ⟨e, y⟩ := y
  rw [rngD_len] at hi
  exact ⟨_, rngD_get hi, .inl ⟨e, by rw [y]; exact .int _⟩⟩
def sgD (z : Str) : List Dt := z.cps.toList.map fun c => .str ⟨#[c]⟩
theorem walkd_str {z : Str} : WalkD b (Its z) Fx (sgD z) := by
  have hl : (sgD z).length = z.cps.size := by unfold sgD; rw [List.length_map, Array.length_toList]
  refine ⟨_, by rw [hl]; exact (walk_str (z := z)).mono (fun _ _ => trivial) (fun i H x H' _ _ y => y), fun i H x H' hi y => ?_⟩
  obtain ⟨e, c, y1, y2⟩ := y
  refine ⟨.str ⟨#[c]⟩, ?_, .inl ⟨e, by rw [y2]; exact .str _⟩⟩
  unfold sgD
  exact get_map_of (f := fun c : Nat => Dt.str ⟨#[c]⟩) (by rw [Array.getElem?_toList]; exact y1)
theorem walk_zipT {a c : Addr} {xs ys : List V} {n : Nat} (hn : n = min xs.length ys.length) : Walk (ItzT K a c) n (fun H => SqT K H a xs ∧ SqT K H c ys) (YPair (fun i => xs[i]?) (fun i => ys[i]?)) := by
  subst hn
  refine ⟨fun i _ hi q => ?_, fun _ q => ⟨xs, ys, q.1, q.2, by omega⟩, fun i H v H' _ q y => ?_⟩
  · have h1 : i < xs.length := by omega
    have h2 : i < ys.length := by omega
    exact ⟨xs, ys, xs[i], ys[i], q.1, q.2, by simp [h1], by simp [h2]⟩
  · obtain ⟨T, x, z, h1, h2, h3, h4, h5⟩ := y
    exact ⟨T, x, z, h1, h2, h3, h4 xs q.1, h5 ys q.2⟩
def zipD (xs ys : List Dt) : List Dt := List.zipWith (fun x y => .tup [x, y]) xs ys
theorem zipD_len (xs ys : List Dt) : (zipD xs ys).length = min xs.length ys.length := List.length_zipWith
theorem zip_pair {vs ws : List V} {xs ys : List Dt} (r : RepL b Fx vs xs) (r2 : RepL b Fx ws ys) {i : Nat} {H : Hp} {x : V} {H' : Hp} (y : YPair (fun i => vs[i]?) (fun i => ws[i]?) i H x H') :
    ∃ d, (zipD xs ys)[i]? = some d ∧ ((H' = H ∧ Rep b Fx x d) ∨ ∃ T vs ds, x = .ref T ∧ H T = none ∧ H' = upd H T (.tup vs) ∧ RepL b Fx vs ds ∧ d = .tup ds) := by
  obtain ⟨T, u, z, h1, h2, h3, h4, h5⟩ := y
  obtain ⟨d, g1, g2⟩ := r.get h4
  obtain ⟨d', g1', g2'⟩ := r2.get h5
  refine ⟨.tup [d, d'], ?_, .inr ⟨T, [u, z], [d, d'], h1, h2, h3, .cons g2 (.cons g2' .nil), rfl⟩⟩
  unfold zipD
  rw [List.getElem?_zipWith, g1, g1'] <;> rfl
theorem walkd_zipL {a c : Addr} {vs ws : List V} {xs ys : List Dt} (h : Fx a = some (.lst vs)) (r : RepL b Fx vs xs) (h2 : Fx c = some (.lst ws)) (r2 : RepL b Fx ws ys) : WalkD b (Itz K a c) Fx (zipD xs ys) := by
  refine ⟨_, (walk_zip (K := K) (a := a) (b := c) (xs := vs) (ys := ws) (by rw [zipD_len, r.length, r2.length])).mono (fun H s => ⟨SqL.of (s _ _ h), SqL.of (s _ _ h2)⟩) (fun i H x H' _ _ y => y), fun i H x H' hi y => zip_pair r r2 y⟩
theorem walkd_zipT {a c : Addr} {vs ws : List V} {xs ys : List Dt} (h : Fx a = some (.tup vs)) (r : RepL b Fx vs xs) (h2 : Fx c = some (.tup ws)) (r2 : RepL b Fx ws ys) : WalkD b (ItzT K a c) Fx (zipD xs ys) := by
  refine ⟨_, (walk_zipT (K := K) (a := a) (c := c) (xs := vs) (ys := ws) (by rw [zipD_len, r.length, r2.length])).mono (fun H s => ⟨SqT.of (s _ _ h), SqT.of (s _ _ h2)⟩) (fun i H x H' _ _ y => y), fun i H x H' hi y => zip_pair r r2 y⟩
def enumD (xs : List Dt) : List Dt := xs.mapIdx fun i x => .tup [.int (i : Nat), x]
theorem walkd_enum {a : Addr} {vs : List V} {xs : List Dt} (h : Fx a = some (.lst vs)) (r : RepL b Fx vs xs) : WalkD b (Ite K a) Fx (enumD xs) := by
  have hl : (enumD xs).length = vs.length := by unfold enumD; rw [List.length_mapIdx, r.length]
  refine ⟨_, by rw [hl]; exact (walk_enum (K := K) (a := a) (xs := vs)).mono (fun H s => SqL.of (s _ _ h)) (fun i H x H' _ _ y => y), fun i H x H' hi y => ?_⟩
  obtain ⟨T, u, z, h1, h2, h3, h4, h5⟩ := y
  obtain ⟨d, g1, g2⟩ := r.get h5
  cases h4
  refine ⟨.tup [.int (i : Nat), d], ?_, .inr ⟨T, [.int (i : Nat), z], [.int (i : Nat), d], h1, h2, h3, .cons (.int _) (.cons g2 .nil), rfl⟩⟩
  unfold enumD
  rw [List.getElem?_mapIdx, g1] <;> rfl
@[reducible] def iL (Ta : DT) : DAt := fun γ P => Ta γ fun x => match x with | .lst xs => P xs | _ => False
@[reducible] def iT (Ta : DT) : DAt := fun γ P => Ta γ fun x => match x with | .tup xs => P xs | _ => False
@[reducible] def iS (Ta : DT) : DAt := fun γ P => Ta γ fun x => match x with | .str z => P (sgD z) | _ => False
theorem i_list (ha : XE X b e Ta) : XI X b tg e (iL Ta) := by
  obtain ⟨_, h1, h2⟩ := ha
  refine ⟨_, pi_list h1, fun P n t R q => h2 _ n t _ fun v d F1 H1 x1 r1 t1 => ?_⟩
  cases r1 <;> first | exact t1.elim | skip
  rename_i h r
  exact ⟨_, rfl, ⟨_, SqL.of (x1.sub _ _ h)⟩, q _ _ F1 H1 x1 (walkd_list h r) t1⟩
theorem i_tup (ha : XE X b e Ta) : XI X b tg e (iT Ta) := by
  obtain ⟨_, h1, h2⟩ := ha
  refine ⟨_, pi_tup h1, fun P n t R q => h2 _ n t _ fun v d F1 H1 x1 r1 t1 => ?_⟩
  cases r1 <;> first | exact t1.elim | skip
  rename_i h r
  exact ⟨_, rfl, ⟨_, SqT.of (x1.sub _ _ h)⟩, q _ _ F1 H1 x1 (walkd_tup h r) t1⟩
theorem i_str (ha : XE X b e Ta) : XI X b tg e (iS Ta) := by
  obtain ⟨_, h1, h2⟩ := ha
  refine ⟨_, pi_str h1, fun P n t R q => h2 _ n t _ fun v d F1 H1 x1 r1 t1 => ?_⟩
  cases r1 <;> first | exact t1.elim | skip
  exact ⟨_, rfl, q _ _ F1 H1 x1 walkd_str t1⟩
@[reducible] def iR1 (Ta : DAt) : DAt := fun γ P => Ta γ fun ds => match ds with | [.int j] => -100000 ≤ j ∧ j ≤ 100000 ∧ P (rngD 0 j.toNat) | _ => False
theorem i_rng1 {p : Pos} (hg : Gl X "range") (hm : X.mg "range" = none) (ha : XA X b [e] Ta) (hs : starEach [e] X.env = [(false, eval e X.env)] := by rfl) : XI X b tg (.Call (.Name "range" p) [e] [] pos) (iR1 Ta) := by
  obtain ⟨_, h1, h2⟩ := ha
  refine ⟨_, pi_range1 hg hm h1 hs, fun P n t R q => h2 _ n t _ fun vs ds F1 H1 x1 r1 t1 => ?_⟩
  cases r1 with
  | nil => exact t1.elim
  | cons ra rb =>
    cases rb with
    | cons _ _ => cases ra <;> exact t1.elim
    | nil =>
      cases ra <;> first | exact t1.elim | skip
      rename_i j
      obtain ⟨a1, a2, t1⟩ := t1
      exact ⟨j, rfl, by omega, by omega, q _ _ F1 H1 x1 walkd_range t1⟩
@[reducible] def iR2 (Ta : DAt) : DAt := fun γ P => Ta γ fun ds => match ds with | [.int i, .int j] => -100000 ≤ i ∧ i ≤ 100000 ∧ -100000 ≤ j ∧ j ≤ 100000 ∧ P (rngD i (j - i).toNat) | _ => False
theorem i_rng2 {p : Pos} (hg : Gl X "range") (hm : X.mg "range" = none) (ha : XA X b [e1, e2] Ta) (hs : starEach [e1, e2] X.env = [(false, eval e1 X.env), (false, eval e2 X.env)] := by rfl) (hs2 : starEach [e2] X.env = [(false, eval e2 X.env)] := by rfl) : XI X b tg (.Call (.Name "range" p) [e1, e2] [] pos) (iR2 Ta) := by
  obtain ⟨_, h1, h2⟩ := ha
  refine ⟨_, pi_range2 hg hm h1 hs hs2, fun P n t R q => h2 _ n t _ fun vs ds F1 H1 x1 r1 t1 => ?_⟩
  cases r1 with
  | nil => exact t1.elim
  | cons ra rb =>
    cases rb with
    | nil => cases ra <;> exact t1.elim
    | cons rb rc =>
      cases rc with
      | cons _ _ => cases ra <;> cases rb <;> exact t1.elim
      | nil =>
        cases ra <;> cases rb <;> first | exact t1.elim | skip
        obtain ⟨a1, a2, a3, a4, t1⟩ := t1
        exact ⟨_, _, rfl, ⟨by omega, by omega, by omega, by omega⟩, q _ _ F1 H1 x1 walkd_range t1⟩
@[reducible] def iZ (Ta : DAt) : DAt := fun γ P => Ta γ fun ds => match ds with | [.lst xs, .lst ys] => P (zipD xs ys) | [.tup xs, .tup ys] => P (zipD xs ys) | _ => False
theorem i_zip {elts : List Expr} {kk : Nat} {tpos p : Pos} (hg : Gl X "zip") (hm : X.mg "zip" = none) (ha : XA X b [e1, e2] Ta) (hs : starEach [e1, e2] X.env = (false, eval e1 X.env) :: starEach [e2] X.env := by rfl) (hpl : (backTo pos (starEach [e2] X.env)).any (·.1) = false := by rfl) :
    XI X b (.Tuple elts kk tpos) (.Call (.Name "zip" p) [e1, e2] [] pos) (iZ Ta) := by
  obtain ⟨_, h1, h2⟩ := ha
  refine ⟨_, pi_zipA hg hm h1 hs hpl, fun P n t R q => h2 _ n t _ fun vs ds F1 H1 x1 r1 t1 => ?_⟩
  cases r1 with
  | nil => exact t1.elim
  | cons ra rb =>
    cases rb with
    | nil => cases ra <;> exact t1.elim
    | cons rb rc =>
      cases rc with
      | cons _ _ => cases ra <;> cases rb <;> exact t1.elim
      | nil =>
        cases ra with
        | lst h r =>
          cases rb <;> first | exact t1.elim | skip
          rename_i h' r'
          exact ⟨_, _, _, _, rfl, .inl ⟨SqL.of (x1.sub _ _ h), SqL.of (x1.sub _ _ h'), q _ _ F1 H1 x1 (walkd_zipL h r h' r') t1⟩⟩
        | tup h r =>
          cases rb <;> first | exact t1.elim | skip
          rename_i h' r'
          exact ⟨_, _, _, _, rfl, .inr ⟨SqT.of (x1.sub _ _ h), SqT.of (x1.sub _ _ h'), q _ _ F1 H1 x1 (walkd_zipT h r h' r') t1⟩⟩
        | _ => cases rb <;> exact t1.elim
@[reducible] def iE (Ta : DAt) : DAt := fun γ P => Ta γ fun ds => match ds with | [.lst xs] => P (enumD xs) | _ => False
theorem i_enum {elts : List Expr} {kk : Nat} {tpos p : Pos} (hg : Gl X "enumerate") (hm : X.mg "enumerate" = none) (ha : XA X b [e] Ta) (hs : starEach [e] X.env = [(false, eval e X.env)] := by rfl) : XI X b (.Tuple elts kk tpos) (.Call (.Name "enumerate" p) [e] [] pos) (iE Ta) := by
  obtain ⟨_, h1, h2⟩ := ha
  refine ⟨_, pi_enum hg hm h1 hs, fun P n t R q => h2 _ n t _ fun vs ds F1 H1 x1 r1 t1 => ?_⟩
  cases r1 with
  | nil => exact t1.elim
  | cons ra rb =>
    cases rb with
    | cons _ _ => cases ra <;> exact t1.elim
    | nil =>
      cases ra <;> first | exact t1.elim | skip
      rename_i h r
      exact ⟨_, _, rfl, SqL.of (x1.sub _ _ h), q _ _ F1 H1 x1 (walkd_enum h r) t1⟩

/-! ### targets -/
@[reducible] def gN (i : Nat) : Dt → Gm → (Gm → Prop) → Prop := fun d γ P => P (gset γ i (.val d))
theorem dg_name {i : Nat} : DG b (gName i) (gN i) [i] := fun {Fm F0 H0 F H σ γ} P {v d} n r t Q q => q _ _ (n.set i r) List.length_set (fun j hj => by
  rw [List.getElem?_set_ne]
  exact fun e => hj (by rw [e]; exact List.mem_singleton.mpr rfl)) t
theorem g_name {i : Nat} {x : Str} (hN : X.N.Nodup) (hi : X.N[i]? = some x) (hx : Loc X.env.scope x) (hf : X.fn x = true ∨ X.env.scope.names.lookup x = some .local := by first | exact .inl rfl | exact .inr rfl | assumption) : XG X b (.Name x pos) (gN i) [i] := ⟨_, pg_name hN hi hx hf, dg_name⟩
@[reducible] def gsNil : List Dt → Gm → (Gm → Prop) → Prop := fun ds γ P => match ds with | [] => P γ | _ => False
@[reducible] def gsCons (t : Dt → Gm → (Gm → Prop) → Prop) (u : List Dt → Gm → (Gm → Prop) → Prop) : List Dt → Gm → (Gm → Prop) → Prop := fun ds γ P => match ds with | d :: r => t d γ fun γ' => u r γ' P | [] => False
theorem gs_nil : XGs X b [] gsNil [] := ⟨_, pgs_nil, fun {Fm F0 H0 F H σ γ} P {vs ds} n r t Q q => by
  cases r with
  | nil => exact ⟨rfl, q _ _ n rfl (fun _ _ => rfl) t⟩
  | cons _ _ => exact t.elim⟩
theorem gs_cons {js ks : List Nat} (h : XG X b e T js) (g : XGs X b es U ks) (hs : (assignEach (e :: es) X.env).map (·.2) = assign e X.env :: (assignEach es X.env).map (·.2) := by rfl) : XGs X b (e :: es) (gsCons T U) (js ++ ks) := by
  obtain ⟨_, h1, h2⟩ := h; obtain ⟨_, g1, g2⟩ := g
  refine ⟨_, pgs_cons h1 g1 hs, fun {Fm F0 H0 F H σ γ} P {vs ds} n r t Q q => ?_⟩
  cases r with
  | nil => exact t.elim
  | cons ra rb => exact ⟨_, _, rfl, h2 _ n ra t _ fun σ1 γ1 n1 l1 s1 t1 => g2 _ n1 rb t1 _ fun σ2 γ2 n2 l2 s2 t2 => q σ2 γ2 n2 (l2.trans l1) (fun i hi => by rw [s2 i fun z => hi (List.mem_append_right _ z), s1 i fun z => hi (List.mem_append_left _ z)]) t2⟩
@[reducible] def gTu (m : Nat) (U : List Dt → Gm → (Gm → Prop) → Prop) : Dt → Gm → (Gm → Prop) → Prop := fun d γ P => match d with | .tup xs => xs.length = m ∧ U xs γ P | _ => False
theorem g_tup {k : Nat} {js : List Nat} {m : Nat} (hc : X.calm = true) (h : XGs X b es U js) (hn : es.length = m := by rfl) (hp : ∀ {t : TGs}, PGs X es t → PG X (.Tuple es k pos) (gTup X.K m t)) : XG X b (.Tuple es k pos) (gTu m U) js := by
  obtain ⟨_, h1, h2⟩ := h
  refine ⟨_, hp h1, fun {Fm F0 H0 F H σ γ} P {v d} n r t Q q => ?_⟩
  cases r <;> first | exact t.elim | skip
  rename_i hh r
  exact ⟨_, _, rfl, SqT.of (n.ok.1 _ _ hh), by rw [r.length]; exact t.1, h2 _ n r t.2 _ q⟩
/-! ### comprehensions -/
/-- here a word of your own is wanted -/
def Word (p : Prop) : Prop := p
@[reducible] def dLc (TI : DAt) (Tg : Dt → Gm → (Gm → Prop) → Prop) (Tt : DBt) (Te : DT) (vs : List Nat) : DAt := fun γ P => TI γ fun xs => xs.length ≤ 100000 ∧ Word (∃ Iv : Nat → List Dt → Prop, Iv 0 [] ∧
  (∀ i d acc, xs[i]? = some d → acc.length ≤ i → Iv i acc → Tg d (gwipe γ vs) fun γ2 => Tt γ2 fun c => (match c with | true => Te γ2 fun y => Iv (i + 1) (acc ++ [y]) | false => Iv (i + 1) acc)) ∧ ∀ acc, acc.length ≤ xs.length → Iv xs.length acc → P acc)
theorem wipe_at (σ : L2.St) {j : Nat} : ∀ {js : List Nat}, j ∉ js → (wipe σ js)[j]? = σ[j]? := fun h => wipe_out h
theorem wipe_ext {σ σ2 : L2.St} {js : List Nat} (hl : σ2.length = σ.length) (h : ∀ i, i ∉ js → σ2[i]? = σ[i]?) : wipe σ2 js = wipe σ js := by
  apply List.ext_getElem?
  intro i
  by_cases hi : i ∈ js
  · have w : ∀ (τ : L2.St) (ks : List Nat), i ∈ ks → (wipe τ ks)[i]? = if i < τ.length then some none else none := fun τ ks => by
      induction ks with
      | nil => intro h; cases h
      | cons k r ih =>
        intro hk
        show ((wipe τ r).set k none)[i]? = _
        by_cases e : i = k
        · subst e
          by_cases z : i < τ.length
          · rw [if_pos z, List.getElem?_set_self (by rw [wipe_length]; exact z)]
          · rw [if_neg z, List.getElem?_eq_none (by rw [List.length_set, wipe_length]; omega)]
        · rw [List.getElem?_set_ne (Ne.symm e)]
          rcases List.mem_cons.mp hk with q | q
          · exact (e q).elim
          · exact ih q
    rw [w σ2 js hi, w σ js hi, hl]
  · rw [wipe_at σ2 hi, wipe_at σ hi, h i hi]
theorem Nv.wiped {Fm F0 H0 F H : Hp} {σ : L2.St} {γ : Gm} (n : Nv b Fm F0 H0 F H σ γ) (js : List Nat) : Nv b Fm F0 H0 F H (wipe σ js) (gwipe γ js) :=
  n.forget (wipe_length _ _) (gwipe_len _ _) fun i => by
    by_cases h : i ∈ js
    · exact .inl (gat_wiped γ h)
    · exact .inr ⟨gat_wipe γ h, wipe_at σ h⟩
theorem dl_lc {wi : TI} {g : TG} {tt : TT} {te : TE} {vs js : List Nat} {TI : DAt} {Tg : Dt → Gm → (Gm → Prop) → Prop} {Tt : DBt} {Te : DT} (hi : DI b wi TI) (hg : DG b g Tg js) (ht : DB b tt Tt) (he : DE b te Te) (hj : ∀ i, i ∈ js → i ∈ vs) :
    DLs b (tLc wi g tt te vs) (dLc TI Tg Tt Te vs) := fun {Fm F0 H0 F H σ γ} P n t Q q => hi _ n t _ fun J xs Fx H1 x1 w t1 => by
  obtain ⟨hz, Iv, i0, is, id⟩ := t1
  intro D hD
  obtain ⟨Y, wk, wy⟩ := w.ex
  refine lc_it wk (Pv := fun i H' => ∃ F' ws acc, Ext b Fx H1 F' H' ∧ H' D = some (.lst ws) ∧ F' D = none ∧ RepL b F' ws acc ∧ acc.length ≤ i ∧ Iv i acc) ?_ ?_ ?_ ?_
  · exact ⟨Fx, [], [], Ext.laid x1.ok hD, upd_same, x1.ok.fF hD, .nil, Nat.le_refl _, i0⟩
  · rintro i H' _ ⟨F', ws, acc, x, _⟩
    exact fun a o h => x.sub a o (x.grow a o h)
  · rintro i x H' H'' hi ⟨F', ws, acc, xx, a1, a2, a3, a4, a5⟩ y
    obtain ⟨d, hd, hy⟩ := wy i H' x H'' hi y
    -- the item, where it stands
    obtain ⟨F2, x2, rx⟩ : ∃ F2, Ext b F' H' F2 H'' ∧ Rep b F2 x d := by
      rcases hy with ⟨rfl, r⟩ | ⟨T, us, ds, rfl, hT, rfl, r, rfl⟩
      · exact ⟨F', Ext.refl xx.ok, r.mono xx.grow⟩
      · exact ⟨_, Ext.push xx.ok hT, .tup upd_same (r.mono (xx.grow.trans (Ext.push xx.ok hT).grow))⟩
    have nb : b.bag ≠ some D := x1.ok.nb hD
    have n2 : Nv b Fm F0 H0 F2 H'' (wipe σ vs) (gwipe γ vs) := ((n.to x1).to (xx.trans x2)).wiped vs
    refine hg _ n2 rx (is i d acc hd a4 a5) _ fun σ2 γ2 n3 l3 s3 t3 => ⟨?_, ?_⟩
    · exact (wipe_ext (js := vs) l3 fun i hi => s3 i fun z => hi (hj i z)).trans (wipe_ext (wipe_length _ _) fun i hi => wipe_at σ hi)
    · have hD' : H'' D = some (.lst ws) := x2.keep _ _ nb a1 .lst
      have fD : F2 D = none := by rw [x2.new _ _ a1 .lst]; exact a2
      refine ht _ n3 t3 _ fun c F3 H3 x3 t4 => ?_
      have y3 := (xx.trans x2).trans x3
      have hD3 : H3 D = some (.lst ws) := x3.keep _ _ nb hD' .lst
      have fD3 : F3 D = none := by rw [x3.new _ _ hD' .lst]; exact fD
      cases c with
      | true =>
        refine iteT (he _ (n3.to x3) t4 _ fun v d2 F4 H4 x4 r4 t5 => ?_)
        have hD4 : H4 D = some (.lst ws) := x4.keep _ _ nb hD3 .lst
        have fD4 : F4 D = none := by rw [x4.new _ _ hD3 .lst]; exact fD3
        have y4 := y3.trans x4
        refine ⟨ws, hD4, ?_, F4, ws ++ [v], acc ++ [d2], y4.wr hD fD4 nb hD4 .lst (fun _ z => by cases z), upd_same, fD4, (a3.mono (x2.grow.trans (x3.grow.trans x4.grow))).append (.cons r4 .nil), ?_, t5⟩
        · have hl := a3.length
          exact Nat.lt_of_le_of_lt (show ws.length ≤ 100000 by omega) (by decide)
        · rw [List.length_append]
          show acc.length + 1 ≤ i + 1
          omega
      | false =>
        exact iteF ⟨F3, ws, acc, y3, hD3, fD3, a3.mono (x2.grow.trans x3.grow), Nat.le_succ_of_le a4, t4⟩
  · rintro H' ⟨F', ws, acc, x, a1, a2, a3, a4, a5⟩
    exact q D ws acc F' H' (x1.trans x) (x1.back n.ok hD) a1 a2 a3 (id acc a4 a5)
end
end DL

namespace DL
open PySem PySem.Spec PyProof.Rows L2
/-! ### a list of one's own is lent for an expression that keeps nothing of it -/
mutual
def noLst : Dt → Bool
  | .lst _ => false
  | .tup xs => noLstL xs
  | .ins _ _ => false
  | .dT _ => false
  | .dK _ => false
  | .exc _ _ => false
  | .lam _ _ => false
  | .clo _ _ => false
  | _ => true
def noLstL : List Dt → Bool
  | [] => true
  | x :: xs => noLst x && noLstL xs
end
def less (F : Hp) (l : Addr) : Hp := fun a => if a = l then none else F a
theorem less_ne {F : Hp} {l a : Addr} (h : a ≠ l) : less F l a = F a := if_neg h
theorem less_at {F : Hp} {l : Addr} : less F l l = none := if_pos rfl
theorem less_sub {F : Hp} {l : Addr} : Sub (less F l) F := fun a o h => by
  by_cases e : a = l
  · rw [e, less_at] at h; cases h
  · rw [less_ne e] at h; exact h
section
variable {b : Bg} {F H : Hp}
mutual
theorem rep_less {l : Addr} {xs : List V} (hl : F l = some (.lst xs)) : ∀ {d : Dt} {v : V}, Rep b F v d → noLst d = true → Rep b (less F l) v d
  | .non, _, h, _ => by cases h; exact .non
  | .bl _, _, h, _ => by cases h; exact .bl _
  | .int _, _, h, _ => by cases h; exact .int _
  | .str _, _, h, _ => by cases h; exact .str _
  | .lst xs, _, h, p => by cases p
  | .tup xs, _, h, p => by
    cases h with
    | tup e r => exact .tup (by rw [less_ne (fun z => by rw [z, hl] at e; cases e)]; exact e) (repL_less hl r p)
  | .ins C fs, _, h, p => by cases p
  | .dT kvs, _, h, p => by cases p
  | .dK kvs, _, h, p => by cases p
  | .ptr _, _, h, p => by cases h; exact .ptr _
  | .bag, _, h, p => by
    cases h with
    | bag e => exact .bag e
  | .exc _ _, _, h, p => by cases p
  | .lam _ _, _, h, p => by cases p
  | .clo _ _, _, h, p => by cases p
theorem repL_less {l : Addr} {xs : List V} (hl : F l = some (.lst xs)) : ∀ {ds : List Dt} {vs : List V}, RepL b F vs ds → noLstL ds = true → RepL b (less F l) vs ds
  | [], _, h, _ => by cases h; exact .nil
  | d :: ds, _, h, p => by
    cases h with
    | cons r t =>
      have p2 : (noLst d && noLstL ds) = true := p
      rw [Bool.and_eq_true] at p2
      exact .cons (rep_less hl r p2.1) (repL_less hl t p2.2)
end
end
mutual
/-- no dict and no instance within -/
def noObj : Dt → Bool
  | .lst xs => noObjL xs
  | .tup xs => noObjL xs
  | .ins _ _ => false
  | .dT _ => false
  | .dK _ => false
  | .exc _ _ => false
  | .lam _ _ => false
  | .clo _ _ => false
  | _ => true
def noObjL : List Dt → Bool
  | [] => true
  | x :: xs => noObj x && noObjL xs
end
@[reducible] def objK : Dt → Bool
  | .lst _ => false
  | _ => true
mutual
theorem rep_lessO {b : Bg} {F : Hp} {l : Addr} {u : HO} (hl : F l = some u) (n1 : ∀ vs, u ≠ .lst vs) (n2 : ∀ vs, u ≠ .tup vs) : ∀ {d : Dt} {v : V}, Rep b F v d → noObj d = true → Rep b (less F l) v d
  | .non, _, h, _ => by cases h; exact .non
  | .bl _, _, h, _ => by cases h; exact .bl _
  | .int _, _, h, _ => by cases h; exact .int _
  | .str _, _, h, _ => by cases h; exact .str _
  | .lst xs, _, h, p => by
    cases h with
    | lst e r => exact .lst (by rw [less_ne (fun z => by rw [z, hl] at e; exact n1 _ (Option.some.inj e))]; exact e) (repL_lessO hl n1 n2 r p)
  | .tup xs, _, h, p => by
    cases h with
    | tup e r => exact .tup (by rw [less_ne (fun z => by rw [z, hl] at e; exact n2 _ (Option.some.inj e))]; exact e) (repL_lessO hl n1 n2 r p)
  | .ins C fs, _, h, p => by cases p
  | .dT kvs, _, h, p => by cases p
  | .dK kvs, _, h, p => by cases p
  | .ptr _, _, h, p => by cases h; exact .ptr _
  | .bag, _, h, p => by
    cases h with
    | bag e => exact .bag e
  | .exc _ _, _, h, p => by cases p
  | .lam _ _, _, h, p => by cases p
  | .clo _ _, _, h, p => by cases p
theorem repL_lessO {b : Bg} {F : Hp} {l : Addr} {u : HO} (hl : F l = some u) (n1 : ∀ vs, u ≠ .lst vs) (n2 : ∀ vs, u ≠ .tup vs) : ∀ {ds : List Dt} {vs : List V}, RepL b F vs ds → noObjL ds = true → RepL b (less F l) vs ds
  | [], _, h, _ => by cases h; exact .nil
  | d :: ds, _, h, p => by
    cases h with
    | cons r t =>
      have p2 : (noObj d && noObjL ds) = true := p
      rw [Bool.and_eq_true] at p2
      exact .cons (rep_lessO hl n1 n2 r p2.1) (repL_lessO hl n1 n2 t p2.2)
end
theorem RepO.kind {b : Bg} {F : Hp} {u : HO} {o : Dt} (r : RepO b F u o) (k : objK o = true) : (∀ vs, u ≠ .lst vs) ∧ ∀ vs, u ≠ .tup vs := by
  cases r with
  | lst r => cases k
  | ins r => exact ⟨fun _ z => (by cases z), fun _ z => (by cases z)⟩
  | dT r => exact ⟨fun _ z => (by cases z), fun _ z => (by cases z)⟩
  | dK r => exact ⟨fun _ z => (by cases z), fun _ z => (by cases z)⟩
@[reducible] def dLend (i : Nat) (T : DT) : DT := fun γ P => match gat γ i with
  | .own _ xs => T (gset γ i (.val (.lst xs))) fun d => noLst d = true ∧ P d
  | .obj _ o => objK o = true ∧ T (gset γ i (.val o)) fun d => noObj d = true ∧ P d
  | _ => False
section
variable {X : Cx} {b : Bg} {e e1 e2 e3 tg : Expr} {es : List Expr} {pos : Pos} {K : PySem.W.Frag} {Fx : Hp}
theorem lend_coreG {Fm F0 H0 F H : Hp} {σ : L2.St} {γ : Gm} (n : Nv b Fm F0 H0 F H σ γ) {i : Nat} {l : Addr} {u : HO} {d : Dt} (ea : (gat γ i).adr = some l) (h1 : σ[i]? = some (some (.ref l))) (h2 : H l = some u) (h3 : RepO b F u d) (h4 : F l = none) (h5 : H0 l = none) (h6 : b.bag ≠ some l) :
    Nv b F F0 H0 (upd F l u) H σ (gset γ i (.val d)) ∧ ∀ F' H', Ext b (upd F l u) H F' H' → F' l = some u ∧ Ext b F H (less F' l) H' := by
  obtain ⟨n2, g⟩ := n.freezeG ea h1 h2 h3 h4 h5 h6
  refine ⟨⟨n2.ok0, g, n2.ext, n2.len, n2.slot, n2.dis⟩, fun F' H' y => ?_⟩
  · have fl : F' l = some u := y.grow _ _ upd_same
    refine ⟨fl, y.keep, fun a o z => ?_, less_sub.trans y.sub, fun a o z ne => ?_, ?_, fun a o z => y.nt a o (less_sub _ _ z), y.tbl, y.tabs, y.cell⟩
    · rw [less_ne (ne_of_none z h4)]
      exact y.grow _ _ (g _ _ z)
    · by_cases ea : a = l
      · rw [ea, less_at, h4]
      · rw [less_ne ea, y.new a o z ne, upd_ne ea]
    · have kb := n.ok
      obtain ⟨bg, nm⟩ := b
      cases eb : bg with
      | none => trivial
      | some a =>
        subst eb
        obtain ⟨k0, c, cs, i2, v2, m, z, q1, q2, q3⟩ := n.ok.2.1
        obtain ⟨k0', c', cs', i2', v2', m', z', q1', q2', q3'⟩ := y.bag
        obtain ⟨c2, r', hr, qc⟩ := y.cell a c _ rfl q2
        have ec : c' = c2 := by
          rw [q2'] at hr
          injection hr with hr
          injection hr with hr
          injection hr with hr1 hr2
          injection hr1
        have cl : c' ≠ l := by
          rw [ec]
          rcases qc with z | z
          · rw [z]; exact ne_of_none q1 h4
          · exact (ne_of_none h2 z).symm
        have al : a ≠ l := fun z => h6 (congrArg some z)
        exact ⟨by rw [less_ne al]; exact k0', c', cs', i2', v2', m', z', by rw [less_ne cl]; exact q1', q2', q3'⟩
theorem lend_core {Fm F0 H0 F H : Hp} {σ : L2.St} {γ : Gm} (n : Nv b Fm F0 H0 F H σ γ) {i : Nat} {l : Addr} {xs : List Dt} (e : gat γ i = .own l xs) : ∃ vs, H l = some (.lst vs) ∧ Nv b F F0 H0 (upd F l (.lst vs)) H σ (gset γ i (.val (.lst xs))) ∧
    ∀ F' H', Ext b (upd F l (.lst vs)) H F' H' → F' l = some (.lst vs) ∧ Ext b F H (less F' l) H' := by
  have hi := n.slot i
  rw [e] at hi
  obtain ⟨vs, h1, h2, h3, h4, h5, h6⟩ := hi
  obtain ⟨a1, a2⟩ := lend_coreG n (d := .lst xs) (by rw [e]; rfl) h1 h2 (.lst h3) h4 h5 h6
  exact ⟨vs, h2, a1, a2⟩
theorem de_lend {te : TE} {T : DT} (i : Nat) (h : DE b te T) : DE b te (dLend i T) := fun {Fm F0 H0 F H σ γ} P n t Q q => by
  unfold dLend at t
  cases e : gat γ i with
  | un => rw [e] at t; exact t.elim
  | val d => rw [e] at t; exact t.elim
  | own l xs =>
    rw [e] at t
    obtain ⟨vs, h2, nl, core⟩ := lend_core n e
    exact h _ nl t Q fun v d F' H' y r p => q v d (less F' l) H' (core F' H' y).2 (rep_less (core F' H' y).1 r p.1) p.2
  | obj l o =>
    rw [e] at t
    have hi := n.slot i
    rw [e] at hi
    obtain ⟨u, h1, h2, h3, h4, h5, h6⟩ := hi
    obtain ⟨nl, core⟩ := lend_coreG n (d := o) (by rw [e]; rfl) h1 h2 h3 h4 h5 h6
    obtain ⟨k1, k2⟩ := h3.kind t.1
    exact h _ nl t.2 Q fun v d F' H' y r p => q v d (less F' l) H' (core F' H' y).2 (rep_lessO (core F' H' y).1 k1 k2 r p.1) p.2
  | hid l d => rw [e] at t; exact t.elim
@[reducible] def bLend (i : Nat) (T : DBt) : DBt := fun γ P => match gat γ i with
  | .own _ xs => T (gset γ i (.val (.lst xs))) P
  | .obj _ o => T (gset γ i (.val o)) P
  | _ => False
theorem db_lend {tt : TT} {T : DBt} (i : Nat) (h : DB b tt T) : DB b tt (bLend i T) := fun {Fm F0 H0 F H σ γ} P n t Q q => by
  unfold bLend at t
  cases e : gat γ i with
  | un => rw [e] at t; exact t.elim
  | val d => rw [e] at t; exact t.elim
  | own l xs =>
    rw [e] at t
    obtain ⟨vs, h2, nl, core⟩ := lend_core n e
    exact h _ nl t Q fun c F' H' y p => q c (less F' l) H' (core F' H' y).2 p
  | obj l o =>
    rw [e] at t
    have hi := n.slot i
    rw [e] at hi
    obtain ⟨u, h1, h2, h3, h4, h5, h6⟩ := hi
    obtain ⟨nl, core⟩ := lend_coreG n (d := o) (by rw [e]; rfl) h1 h2 h3 h4 h5 h6
    exact h _ nl t Q fun c F' H' y p => q c (less F' l) H' (core F' H' y).2 p
  | hid l d => rw [e] at t; exact t.elim
theorem t_lend (i : Nat) (h : XT X b e T) : XT X b e (bLend i T) := by
  obtain ⟨_, h1, h2⟩ := h
  exact ⟨_, h1, db_lend i h2⟩
theorem x_lend (i : Nat) (h : XE X b e T) : XE X b e (dLend i T) := by
  obtain ⟨_, h1, h2⟩ := h
  exact ⟨_, h1, de_lend i h2⟩
/-! ### one reading for a family of contexts -/
theorem XE.all {ι : Type} {Y : ι → Cx} {T : DT} (h : ∀ i, XE (Y i) b e T) : ∃ te, (∀ i, PE (Y i) e te) ∧ DE b te T :=
  ⟨fun σ H Q => ∀ i, (h i).ex.choose σ H Q, fun i => ⟨fun pins s σ H Q I hw => (h i).ex.choose_spec.1.run pins s σ H Q I (hw i)⟩, fun P n t Q q i => (h i).ex.choose_spec.2 P n t Q q⟩
theorem XTs.all {ι : Type} {Y : ι → Cx} {T : DBt} (h : ∀ i, XTs (Y i) b es T) : ∃ te, (∀ i, PTs (Y i) es te) ∧ DB b te T :=
  ⟨fun σ H Q => ∀ i, (h i).ex.choose σ H Q, fun i => ⟨fun pins s σ H Q I hw => (h i).ex.choose_spec.1.run pins s σ H Q I (hw i)⟩, fun P n t Q q i => (h i).ex.choose_spec.2 P n t Q q⟩
theorem XG.all {ι : Type} {Y : ι → Cx} {T} {js : List Nat} (h : ∀ i, XG (Y i) b e T js) : ∃ te, (∀ i, PG (Y i) e te) ∧ DG b te T js :=
  ⟨fun v σ H Q => ∀ i, (h i).ex.choose v σ H Q, fun i => ⟨fun pins s σ H v u Q I r hw => (h i).ex.choose_spec.1.run pins s σ H v u Q I r (hw i)⟩, fun {Fm F0 H0 F H σ γ} P {v d} n r t Q q i => (h i).ex.choose_spec.2 P n r t Q q⟩
theorem ts_nil : XTs X b [] (fun _ P => P true) := ⟨_, pts_nil, fun P n t Q q => q true _ _ (Ext.refl n.ok) t⟩
theorem ts_one (h : XT X b e T) : XTs X b [e] T := by
  obtain ⟨_, h1, h2⟩ := h
  exact ⟨_, pts_one h1, h2⟩
abbrev Bix := Shared × Hp × Addr × List (Str × Addr) × List Addr
abbrev Cx.blkI (X : Cx) (scope : Scope) (i : Bix) : Cx := X.blk i.1 i.2.1 scope (compEnvC scope i.2.2.2.1 i.2.2.1 X.env) i.2.2.2.2
theorem l_lc {elt tg iter : Expr} {ifs : List Expr} {scope : Scope} {own : List (Str × Nat)} {js vs : List Nat} {TI : DAt} {Tg : Dt → Gm → (Gm → Prop) → Prop} {Tt : DBt} {Te : DT} (hc : X.calm = true) (hN : X.N.Nodup) (hi : XI X b tg iter TI) (ok : BlkOk X.N X.env.scope scope own)
    (hg : ∀ i : Bix, XG (Cx.blkI X scope i) b tg Tg js) (ht : ∀ i : Bix, XTs (Cx.blkI X scope i) b ifs Tt) (he : ∀ i : Bix, XE (Cx.blkI X scope i) b elt Te) (hj : ∀ i, i ∈ js → i ∈ vs) (hv : own.map (·.2) = vs := by rfl) (hs : ∀ x, foldedSetIterable iter X.env x = pure x := by intro _; rfl) :
    XL X b (.ListComp elt [⟨tg, iter, ifs, 0⟩] scope pos) (dLc TI Tg Tt Te vs) := by
  subst hv
  obtain ⟨_, i1, i2⟩ := hi
  obtain ⟨g, g1, g2⟩ := XG.all hg
  obtain ⟨tt, t1, t2⟩ := XTs.all ht
  obtain ⟨te, e1, e2⟩ := XE.all he
  exact ⟨_, pe_lc hc hN i1 ok (fun s H C cl fp => g1 (s, H, C, cl, fp)) (fun s H C cl fp => t1 (s, H, C, cl, fp)) (fun s H C cl fp => e1 (s, H, C, cl, fp)) hs, dl_lc i2 g2 t2 e2 hj⟩
/-! ### statements -/
@[reducible] def sNext : DSt := fun E γ => E.nx γ
@[reducible] def sSeq (t u : DSt) : DSt := fun E γ => t { E with nx := fun γ' => u E γ' } γ
theorem ss_nil : XSs X b [] sNext := ⟨_, pss_nil, fun E n t D k => k.nx n t⟩
theorem ss_one {st : Stmt} (h : XS X b st t) : XSs X b [st] t := by
  obtain ⟨_, h1, h2⟩ := h
  exact ⟨_, pss_one h1, h2⟩
theorem ss_cons {st : Stmt} {r : List Stmt} (h : XS X b st t) (g : XSs X b r u) : XSs X b (st :: r) (sSeq t u) := by
  obtain ⟨_, h1, h2⟩ := h; obtain ⟨_, g1, g2⟩ := g
  exact ⟨_, pss_cons h1 g1, fun E n t D k => h2 _ n t _ ⟨fun n' t' => g2 _ n' t' D k, k.rt, k.bk, k.ct⟩⟩
theorem s_pass : XS X b (.Pass pos) sNext := ⟨_, ps_pass, fun E n t D k => k.nx n t⟩
theorem s_doc {x j p2} : XS X b (.Expr (.Constant (.str x) j pos) p2) sNext := ⟨_, ps_doc, fun E n t D k => k.nx n t⟩
theorem s_break : XS X b (.Break pos) (fun E γ => E.bk γ) := ⟨_, ps_break, fun E n t D k => k.bk n t⟩
theorem s_continue : XS X b (.Continue pos) (fun E γ => E.ct γ) := ⟨_, ps_continue, fun E n t D k => k.ct n t⟩
@[reducible] def sRet (Ta : DT) : DSt := fun E γ => Ta γ (E.rt γ)
theorem s_ret (h : XE X b e Ta) : XS X b (.Return (some e) pos) (sRet Ta) := by
  obtain ⟨_, h1, h2⟩ := h
  exact ⟨_, ps_ret h1, fun E n t D k => h2 _ n t _ fun v d F' H' x r p => k.rt (n.to x) r p⟩
theorem s_retN : XS X b (.Return none pos) (fun E γ => E.rt γ .non) := ⟨_, ps_retN, fun E n t D k => k.rt n .non t⟩
/-- a list of one's own is handed back -/
@[reducible] def sRetO (i : Nat) : DSt := fun E γ => match gat γ i with | .own _ xs => E.rt (gset γ i (.val (.lst xs))) (.lst xs) | .obj _ o => E.rt (gset γ i (.val o)) o | .val d => E.rt γ d | _ => False
theorem s_retO (i : Nat) {x : Str} {p1 : Pos} (hN : X.N[i]? = some x := by rfl) (hv : Vis X.env.scope x := by first | exact Or.inl rfl | exact Or.inr (Or.inl rfl) | exact Or.inr (Or.inr rfl)) (hd : (x == ("__debug__" : Str)) = false := by decide)
    (hcd : (x == ("__classdict__" : Str)) = false := by decide) : XS X b (.Return (some (.Name x p1)) pos) (sRetO i) := by
  refine ⟨_, ps_ret (pe_var hN hv hd hcd), fun {Fm F0 H0 F H σ γ} E n t D k => ?_⟩
  unfold sRetO at t
  have hi := n.slot i
  cases e : gat γ i with
  | un => rw [e] at t; exact t.elim
  | val d =>
    rw [e] at t hi
    obtain ⟨v, h1, h2⟩ := hi
    exact ⟨v, h1, k.rt n h2 t⟩
  | own l xs =>
    rw [e] at t hi
    obtain ⟨vs, h1, h2, h3, h4, h5, h6⟩ := hi
    obtain ⟨n', g⟩ := n.freezeG (d := .lst xs) (by rw [e]; rfl) h1 h2 (.lst h3) h4 h5 h6
    exact ⟨_, h1, k.rt n' ((RepO.lst (h3.mono g)).rep upd_same) t⟩
  | obj l o =>
    rw [e] at t hi
    obtain ⟨u, h1, h2, h3, h4, h5, h6⟩ := hi
    obtain ⟨n', g⟩ := n.freezeG (d := o) (by rw [e]; rfl) h1 h2 h3 h4 h5 h6
    exact ⟨_, h1, k.rt n' ((h3.mono g).rep upd_same) t⟩
  | hid l d => rw [e] at t; exact t.elim
@[reducible] def sDrop (Ta : DT) : DSt := fun E γ => Ta γ fun _ => E.nx γ
theorem s_expr (h : XE X b e Ta) (hs : swapsWith e none pos.line X.env = pure false := by rfl) : XS X b (.Expr e pos) (sDrop Ta) := by
  obtain ⟨_, h1, h2⟩ := h
  exact ⟨_, ps_expr h1 hs, fun E n t D k => h2 _ n t _ fun v d F' H' x r p => k.nx (n.to x) p⟩
@[reducible] def sSet (i : Nat) (Ta : DT) : DSt := fun E γ => Ta γ fun d => E.nx (gset γ i (.val d))
theorem s_set {i : Nat} {x : Str} {p2 : Pos} (hN : X.N.Nodup) (hi : X.N[i]? = some x) (hx : Loc X.env.scope x) (h : XE X b e Ta) (hs : swapsWith e (some (.Name x p2)) pos.line X.env = pure false := by rfl) (hf : X.fn x = true ∨ X.env.scope.names.lookup x = some .local := by first | exact .inl rfl | exact .inr rfl | assumption) :
    XS X b (.Assign [.Name x p2] e pos) (sSet i Ta) := by
  obtain ⟨_, h1, h2⟩ := h
  exact ⟨_, ps_set hN hi hx h1 hs hf, fun E n t D k => h2 _ n t _ fun v d F' H' x r p => k.nx ((n.to x).set i r) p⟩
@[reducible] def sSetL (i : Nat) (Tl : DAt) : DSt := fun E γ => Tl γ fun xs => ∀ l, E.nx (gset γ i (.own l xs))
theorem ds_setL {i : Nat} {te : TE} {Tl : DAt} (h2 : DLs b te Tl) : DS b (tAsg te (gName i)) (sSetL i Tl) := fun {Fm F0 H0 F H σ γ} E n t D k => h2 _ n t _ fun p vs xs F' H' x hp hl hf r pp => by
  refine k.nx ((n.to x).setOwn i hl r hf (n.ext.back n.ok0 hp) (n.ok.nb hp) fun j a hj hq => ?_) (pp p)
  obtain ⟨u, h2⟩ := n.there hj
  rw [hq, hp] at h2
  cases h2
theorem s_setL {i : Nat} {x : Str} {p2 : Pos} (hN : X.N.Nodup) (hi : X.N[i]? = some x) (hx : Loc X.env.scope x) (h : XL X b e Tl) (hs : swapsWith e (some (.Name x p2)) pos.line X.env = pure false := by rfl) (hf : X.fn x = true ∨ X.env.scope.names.lookup x = some .local := by first | exact .inl rfl | exact .inr rfl | assumption) :
    XS X b (.Assign [.Name x p2] e pos) (sSetL i Tl) := by
  obtain ⟨_, h1, h2⟩ := h
  exact ⟨_, ps_set hN hi hx h1 hs hf, ds_setL h2⟩
/-- name = [.. for ..] -/
theorem s_setLc {i : Nat} {y : Str} {py : Pos} {elt tg iter : Expr} {ifs : List Expr} {scope : Scope} {own : List (Str × Nat)} {p2 : Pos} {js vs : List Nat} {TI : DAt} {Tg : Dt → Gm → (Gm → Prop) → Prop} {Tt : DBt} {Te : DT} (hc : X.calm = true) (hN : X.N.Nodup) (hy : X.N[i]? = some y) (hyl : X.env.scope.names.lookup y = some .local)
    (hsw : swapsWith (.ListComp elt [⟨tg, iter, ifs, 0⟩] scope p2) (some (.Name y py)) pos.line X.env = pure true) (hi : XI X b tg iter TI) (ok : BlkOk X.N X.env.scope scope own)
    (hg : ∀ i : Bix, XG (Cx.blkI X scope i) b tg Tg js) (ht : ∀ i : Bix, XTs (Cx.blkI X scope i) b ifs Tt) (he : ∀ i : Bix, XE (Cx.blkI X scope i) b elt Te) (hj : ∀ i, i ∈ js → i ∈ vs) (hv : own.map (·.2) = vs := by rfl) (hs : ∀ x, foldedSetIterable iter X.env x = pure x := by intro _; rfl) :
    XS X b (.Assign [.Name y py] (.ListComp elt [⟨tg, iter, ifs, 0⟩] scope p2) pos) (sSetL i (dLc TI Tg Tt Te vs)) := by
  subst hv
  obtain ⟨_, i1, i2⟩ := hi
  obtain ⟨g, g1, g2⟩ := XG.all hg
  obtain ⟨tt, t1, t2⟩ := XTs.all ht
  obtain ⟨te, e1, e2⟩ := XE.all he
  exact ⟨_, ps_setLc hc hN hy hyl hsw i1 ok (fun s H C cl fp => g1 (s, H, C, cl, fp)) (fun s H C cl fp => t1 (s, H, C, cl, fp)) (fun s H C cl fp => e1 (s, H, C, cl, fp)) hs, ds_setL (dl_lc i2 g2 t2 e2 hj)⟩
/-- a list of one's own counts as a value from here on -/
@[reducible] def sFrz (i : Nat) (T : DSt) : DSt := fun E γ => match gat γ i with | .own _ xs => T E (gset γ i (.val (.lst xs))) | .obj _ o => T E (gset γ i (.val o)) | _ => T E γ
theorem DS.frz {ts : TS} {T : DSt} (i : Nat) (h : DS b ts T) : DS b ts (sFrz i T) := fun {Fm F0 H0 F H σ γ} E n t D k => by
  unfold sFrz at t
  cases e : gat γ i with
  | un => rw [e] at t; exact h E n t D k
  | val d => rw [e] at t; exact h E n t D k
  | own l xs =>
    rw [e] at t
    obtain ⟨F', n', g⟩ := n.freeze e
    exact h E n' t D k
  | obj l o =>
    rw [e] at t
    obtain ⟨F', n', g⟩ := n.freezeO e
    exact h E n' t D k
  | hid l d => rw [e] at t; exact h E n t D k
theorem s_frz {st : Stmt} (i : Nat) (h : XS X b st T) : XS X b st (sFrz i T) := by
  obtain ⟨_, h1, h2⟩ := h
  exact ⟨_, h1, h2.frz i⟩
theorem ss_frz {st : List Stmt} (i : Nat) (h : XSs X b st T) : XSs X b st (sFrz i T) := by
  obtain ⟨_, h1, h2⟩ := h
  exact ⟨_, h1, h2.frz i⟩
@[reducible] def sPar (i j : Nat) (Ta : DAt) : DSt := fun E γ => Ta γ fun ds => match ds with | [d1, d2] => E.nx (gset (gset γ i (.val d1)) j (.val d2)) | _ => False
theorem s_par {i j : Nat} {x y : Str} {a c : Expr} {px py pt : Pos} {kt k2 pt2} (hc : X.calm = true) (hN : X.N.Nodup) (hi : X.N[i]? = some x) (hj : X.N[j]? = some y) (hij : i ≠ j)
    (hx : X.env.scope.names.lookup x = some .local) (hy : X.env.scope.names.lookup y = some .local) (ha : XA X b [a, c] Ta)
    (hw : swappedStores [.Tuple [.Name x px, .Name y py] kt pt] (.Tuple [a, c] k2 pt2) X.env = pure (some [x, y]))
    (hs : swapsWithSole [.Tuple [.Name x px, .Name y py] kt pt] (.Tuple [a, c] k2 pt2) pos.line X.env = pure false := by rfl) :
    XS X b (.Assign [.Tuple [.Name x px, .Name y py] kt pt] (.Tuple [a, c] k2 pt2) pos) (sPar i j Ta) := by
  obtain ⟨_, h1, h2⟩ := ha
  refine ⟨_, ps_par hc hN hi hj hij hx hy h1 hw hs, fun E n t D k => h2 _ n t _ fun vs ds F' H' x r p => ?_⟩
  cases r with
  | nil => exact p.elim
  | cons ra rb =>
    cases rb with
    | nil => exact p.elim
    | cons rb rc =>
      cases rc with
      | cons _ _ => exact p.elim
      | nil => exact ⟨_, _, rfl, k.nx (((n.to x).set i ra).set j rb) p⟩
@[reducible] def sPar3 (i j l : Nat) (Ta : DAt) : DSt := fun E γ => Ta γ fun ds => match ds with | [d1, d2, d3] => E.nx (gset (gset (gset γ i (.val d1)) j (.val d2)) l (.val d3)) | _ => False
theorem s_par3 {i j l : Nat} {x y z : Str} {a c d : Expr} {px py pz pt : Pos} {kt k2 pt2} (hc : X.calm = true) (hN : X.N.Nodup) (hi : X.N[i]? = some x) (hj : X.N[j]? = some y) (hl : X.N[l]? = some z) (hij : i ≠ j) (hil : i ≠ l) (hjl : j ≠ l)
    (hx : X.env.scope.names.lookup x = some .local) (hy : X.env.scope.names.lookup y = some .local) (hz : X.env.scope.names.lookup z = some .local) (ha : XA X b [a, c, d] Ta)
    (hw : swappedStores [.Tuple [.Name x px, .Name y py, .Name z pz] kt pt] (.Tuple [a, c, d] k2 pt2) X.env = pure (some [x, y, z]))
    (hs : swapsWithSole [.Tuple [.Name x px, .Name y py, .Name z pz] kt pt] (.Tuple [a, c, d] k2 pt2) pos.line X.env = pure false := by rfl) :
    XS X b (.Assign [.Tuple [.Name x px, .Name y py, .Name z pz] kt pt] (.Tuple [a, c, d] k2 pt2) pos) (sPar3 i j l Ta) := by
  obtain ⟨_, h1, h2⟩ := ha
  refine ⟨_, ps_par3 hc hN hi hj hl hij hil hjl hx hy hz h1 hw hs, fun E n t D k => h2 _ n t _ fun vs ds F' H' x r p => ?_⟩
  cases r with
  | nil => exact p.elim
  | cons ra rb =>
    cases rb with
    | nil => exact p.elim
    | cons rb rc =>
      cases rc with
      | nil => exact p.elim
      | cons rc rd =>
        cases rd with
        | cons _ _ => exact p.elim
        | nil => exact ⟨_, _, _, rfl, k.nx ((((n.to x).set i ra).set j rb).set l rc) p⟩
@[reducible] def sAsg (Ta : DT) (Tg : Dt → Gm → (Gm → Prop) → Prop) : DSt := fun E γ => Ta γ fun d => Tg d γ E.nx
theorem s_asg {js : List Nat} (h : XE X b e Ta) (g : XG X b tg Tg js) (hs : swapsWithSole [tg] e pos.line X.env = pure false := by rfl) (hw : swappedStores [tg] e X.env = pure none := by rfl) (hh : (assignEach [tg] X.env).map (·.2) = [assign tg X.env] := by rfl) : XS X b (.Assign [tg] e pos) (sAsg Ta Tg) := by
  obtain ⟨_, h1, h2⟩ := h; obtain ⟨_, g1, g2⟩ := g
  exact ⟨_, ps_asg h1 g1 hs hw hh, fun E n t D k => h2 _ n t _ fun v d F' H' x r p => g2 _ (n.to x) r p _ fun σ' γ' n' _ _ p' => k.nx n' p'⟩
theorem g_tup' {k : Nat} {js : List Nat} {m : Nat} (hc : X.calm = true) (h : XGs X b es U js) (hn : (assignEach es X.env).length = m := by rfl) (hst : (assignEach es X.env).findIdx? (·.1) = none := by rfl) : XG X b (.Tuple es k pos) (gTu m U) js := by
  obtain ⟨_, h1, h2⟩ := h
  refine ⟨_, pg_tup hc h1 hn hst, fun {Fm F0 H0 F H σ γ} P {v d} n r t Q q => ?_⟩
  cases r <;> first | exact t.elim | skip
  rename_i hh r
  exact ⟨_, _, rfl, SqT.of (n.ok.1 _ _ hh), by rw [r.length]; exact t.1, h2 _ n r t.2 _ q⟩
@[reducible] def sIf (A : DBt) (t u : DSt) : DSt := fun E γ => A γ fun c => (match c with | true => t E γ | false => u E γ)
theorem s_if {c : Expr} {p q : List Stmt} (hc : XT X b c A) (h : XSs X b p t) (g : XSs X b q u) : XS X b (.If c p q pos) (sIf A t u) := by
  obtain ⟨_, c1, c2⟩ := hc; obtain ⟨_, h1, h2⟩ := h; obtain ⟨_, g1, g2⟩ := g
  refine ⟨_, ps_if c1 h1 g1, fun E n t D k => c2 _ n t _ fun c F' H' x p => ?_⟩
  cases c with
  | true => exact iteT (h2 E (n.to x) p D k)
  | false => exact iteF (g2 E (n.to x) p D k)
/-- a list of one's own grows -/
@[reducible] def sApp (i : Nat) (Ta : DT) : DSt := fun E γ => match gat γ i with | .own l xs => Ta γ fun d => xs.length < 100000 ∧ E.nx (gset γ i (.own l (xs ++ [d]))) | _ => False
theorem s_app (i : Nat) {x : Str} {apos p1 p2 : Pos} (ha : XE X b e Ta) (hN : X.N[i]? = some x := by rfl) (hv : Vis X.env.scope x := by first | exact Or.inl rfl | exact Or.inr (Or.inl rfl) | exact Or.inr (Or.inr rfl)) (hd : (x == ("__debug__" : Str)) = false := by decide)
    (hcd : (x == ("__classdict__" : Str)) = false := by decide) (he : starEach [e] X.env = (false, eval e X.env) :: starEach [] X.env := by rfl)
    (hpe : ∀ {te : TE} {t : TA}, PE X (.Name x p1) te → PA X [e] t → PE X (.Call (.Attribute (.Name x p1) "append" apos) [e] [] p2) (tBM X.K "list" rAppend te t) := by exact fun h g => pe_bm PySem.F.plainAttrs_list PySem.F.slot_list_append PySem.F.type_list_append mt_append h g)
    (hs : swapsWith (.Call (.Attribute (.Name x p1) "append" apos) [e] [] p2) none pos.line X.env = pure false := by rfl) : XS X b (.Expr (.Call (.Attribute (.Name x p1) "append" apos) [e] [] p2) pos) (sApp i Ta) := by
  obtain ⟨_, h1, h2⟩ := ha
  refine ⟨_, ps_expr (hpe (pe_var hN hv hd hcd) (pa_cons h1 pa_nil he)) hs, fun {Fm F0 H0 F H σ γ} E n t D k => ?_⟩
  unfold sApp at t
  have hi := n.slot i
  cases e : gat γ i with
  | un => rw [e] at t; exact t.elim
  | val d => rw [e] at t; exact t.elim
  | obj l d => rw [e] at t; exact t.elim
  | hid l d => rw [e] at t; exact t.elim
  | own l xs =>
    rw [e] at hi t
    obtain ⟨vs, a1, a2, a3, a4, a5, a6⟩ := hi
    refine ⟨_, a1, Or.inl ⟨rfl, vs, SqL.of a2⟩, h2 _ n t _ fun v d F' H' x r p => ?_⟩
    refine ⟨l, vs, v, rfl, rfl, x.keep _ _ a6 a2 .lst, ?_, k.nx ((n.to x).wr e ((a3.mono x.grow).append (.cons r .nil))) p.2⟩
    exact Nat.lt_of_le_of_lt (show vs.length ≤ 100000 by rw [a3.length]; omega) (by decide)
/-- an item of a list of one's own is stored -/
@[reducible] def sSetIx (i : Nat) (Ta Tb : DT) : DSt := fun E γ => match gat γ i with | .own l xs => (Ta γ fun d => Tb γ fun j => match j with | .int z => ∃ n, ixN xs.length z = some n ∧ E.nx (gset γ i (.own l (xs.set n d))) | _ => False) | _ => False
theorem RepL.set {F : Hp} : ∀ {xs : List Dt} {vs : List V} (n : Nat) {v : V} {d : Dt}, RepL b F vs xs → Rep b F v d → RepL b F (vs.set n v) (xs.set n d)
  | _, _, _, _, _, .nil, _ => .nil
  | _, _, 0, _, _, .cons _ t, r => .cons r t
  | _, _, n + 1, _, _, .cons q t, r => .cons q (RepL.set n t r)
theorem s_setIx (i : Nat) {x : Str} {p1 p2 : Pos} (ha : XE X b e Ta) (hj : XE X b e2 Tb) (hN : X.N[i]? = some x := by rfl) (hv : Vis X.env.scope x := by first | exact Or.inl rfl | exact Or.inr (Or.inl rfl) | exact Or.inr (Or.inr rfl)) (hd : (x == ("__debug__" : Str)) = false := by decide)
    (hcd : (x == ("__classdict__" : Str)) = false := by decide)
    (hps : ∀ {te to ti : TE}, PE X e te → PE X (.Name x p1) to → PE X e2 ti → PS X (.Assign [.Subscript (.Name x p1) e2 p2] e pos) (tAsg te (gSub to ti rSetL)) := by exact fun h o i => ps_asg h (pg_sub o i set_list)) :
    XS X b (.Assign [.Subscript (.Name x p1) e2 p2] e pos) (sSetIx i Ta Tb) := by
  obtain ⟨_, h1, h2⟩ := ha; obtain ⟨_, j1, j2⟩ := hj
  refine ⟨_, hps h1 (pe_var hN hv hd hcd) j1, fun {Fm F0 H0 F H σ γ} E n t D k => ?_⟩
  unfold sSetIx at t
  have hi := n.slot i
  cases e : gat γ i with
  | un => rw [e] at t; exact t.elim
  | val d => rw [e] at t; exact t.elim
  | obj l d => rw [e] at t; exact t.elim
  | hid l d => rw [e] at t; exact t.elim
  | own l xs =>
    rw [e] at hi t
    obtain ⟨vs, a1, a2, a3, a4, a5, a6⟩ := hi
    refine h2 _ n t _ fun v d F1 H1 x1 r1 t1 => ⟨_, a1, j2 _ (n.to x1) t1 _ fun w z F2 H2 x2 r2 t2 => ?_⟩
    cases r2 <;> first | exact t2.elim | skip
    obtain ⟨m, t3, t4⟩ := t2
    refine ⟨l, vs, _, m, rfl, rfl, x2.keep _ _ a6 (x1.keep _ _ a6 a2 .lst) .lst, by rw [a3.length]; exact t3, k.nx (((n.to x1).to x2).wr e ((a3.mono (x1.grow.trans x2.grow)).set m (x2.mono r1))) t4⟩
/-- for: Iv the word between the turns -/
@[reducible] def sFor (TI : DAt) (Tg : Dt → Gm → (Gm → Prop) → Prop) (Tb : DSt) : DSt := fun E γ => TI γ fun xs => Word (∃ Iv : Nat → Gm → Prop, Iv 0 γ ∧
  (∀ i d γ', xs[i]? = some d → Iv i γ' → Tg d γ' fun γ2 => Tb { E with nx := Iv (i + 1), ct := Iv (i + 1), bk := E.nx } γ2) ∧ ∀ γ', Iv xs.length γ' → E.nx γ')
theorem s_for {iter : Expr} {body : List Stmt} {js : List Nat} {TI : DAt} {Tg : Dt → Gm → (Gm → Prop) → Prop} {Tb : DSt} (hc : X.calm = true) (hi : XI X b tg iter TI) (g : XG X b tg Tg js) (h : XSs X b body Tb) (hp : PassesOwn (model X.prog X.w) X.A X.env X.xe := by exact PassesOwn.never) (hs : ∀ x, foldedSetIterable iter X.env x = pure x := by intro _; rfl) :
    XS X b (.For tg iter body [] pos) (sFor TI Tg Tb) := by
  obtain ⟨_, i1, i2⟩ := hi; obtain ⟨_, g1, g2⟩ := g; obtain ⟨_, h1, h2⟩ := h
  refine ⟨_, ps_for hp hc i1 g1 h1 hs, fun {Fm F0 H0 F H σ γ} E n t D k => i2 _ n t _ fun J xs Fx H1 x1 w t1 => ?_⟩
  obtain ⟨Iv, i0, is, id⟩ := t1
  obtain ⟨Y, wk, wy⟩ := w.ex
  have fmx : Sub Fm Fx := n.fm.trans x1.grow
  have down : ∀ {F' H' : Hp} {σ' : L2.St} {γ' : Gm}, Nv b Fx F0 H0 F' H' σ' γ' → Nv b Fm F0 H0 F' H' σ' γ' := fun n' => ⟨n'.ok0, fmx.trans n'.fm, n'.ext, n'.len, n'.slot, n'.dis⟩
  refine for_it wk (Pv := fun i σ' H' => ∃ F' γ', Nv b Fx F0 H0 F' H' σ' γ' ∧ Iv i γ') ?_ ?_ ?_ ?_
  · have n1 := n.to x1
    exact ⟨Fx, γ, ⟨n1.ok0, Sub.refl _, n1.ext, n1.len, n1.slot, n1.dis⟩, i0⟩
  · rintro i σ' H' _ ⟨F', γ', n', _⟩
    exact fun a o z => n'.ok.1 a o (n'.fm a o z)
  · rintro i x σ' H' H'' hi ⟨F', γ', n', p⟩ y
    obtain ⟨d, hd, hy⟩ := wy i H' x H'' hi y
    obtain ⟨F2, x2, rx⟩ : ∃ F2, Ext b F' H' F2 H'' ∧ Rep b F2 x d := by
      rcases hy with ⟨rfl, r⟩ | ⟨T, us, ds, rfl, hT, rfl, r, rfl⟩
      · exact ⟨F', Ext.refl n'.ok, r.mono n'.fm⟩
      · exact ⟨_, Ext.push n'.ok hT, .tup upd_same (r.mono (n'.fm.trans (Ext.push n'.ok hT).grow))⟩
    refine g2 _ (n'.to x2) rx (is i d γ' hd p) _ fun σ2 γ2 n3 _ _ t3 => ?_
    exact h2 _ n3 t3 _ ⟨fun n4 p4 => ⟨_, _, n4, p4⟩, fun n4 r4 p4 => k.rt (down n4) r4 p4, fun n4 p4 => k.nx (down n4) p4, fun n4 p4 => ⟨_, _, n4, p4⟩⟩
  · rintro σ' H' ⟨F', γ', n', p⟩
    exact k.nx (down n') (id γ' p)
/-- i += e, of ints -/
@[reducible] def sAug (i : Nat) (f : Int → Int → Int) (Ta : DT) : DSt := fun E γ => match gat γ i with | .val (.int x) => (Ta γ fun d => match d with | .int y => E.nx (gset γ i (.val (.int (f x y)))) | _ => False) | _ => False
theorem s_augAdd {i : Nat} {x : Str} {p2 : Pos} (hN : X.N.Nodup) (hi : X.N[i]? = some x) (hx : Loc X.env.scope x) (h : XE X b e Ta) (hf : X.fn x = true ∨ X.env.scope.names.lookup x = some .local := by first | exact .inl rfl | exact .inr rfl | assumption)
    (hpp : ∀ {te : TE}, PE X e te → PS X (.AugAssign (.Name x p2) .Add e pos) (tAug i te (ipI fun i j => i + j)) := by exact fun h => ps_aug (by assumption) (by assumption) (by assumption) h ip_add) : XS X b (.AugAssign (.Name x p2) .Add e pos) (sAug i (fun i j => i + j) Ta) := by
  obtain ⟨_, h1, h2⟩ := h
  refine ⟨_, hpp h1, fun {Fm F0 H0 F H σ γ} E n t D k => ?_⟩
  unfold sAug at t
  have hi := n.slot i
  cases e : gat γ i with
  | un => rw [e] at t; exact t.elim
  | own l d => rw [e] at t; exact t.elim
  | obj l d => rw [e] at t; exact t.elim
  | hid l d => rw [e] at t; exact t.elim
  | val d =>
    rw [e] at t hi
    cases d <;> first | exact t.elim | skip
    obtain ⟨v, a1, a2⟩ := hi
    cases a2
    refine ⟨_, a1, h2 _ n t _ fun v d F' H' x r p => ?_⟩
    cases r <;> first | exact p.elim | skip
    exact ⟨_, _, rfl, rfl, k.nx ((n.to x).set i (.int _)) p⟩

/-! ### a def keeps what its data say -/
def startD (N : List Str) (ds : List Dt) : Gm := ds.map Sl.val ++ List.replicate (N.length - ds.length) .un
theorem start_nv {Fm F0 H0 : Hp} {N : List Str} {vs : List V} {ds : List Dt} (k : Ok b F0 H0) (r : RepL b F0 vs ds) : Nv b F0 F0 H0 F0 H0 (L2.start N vs) (startD N ds) := by
  have at_ : ∀ (i : Nat), (∃ d v, ds[i]? = some d ∧ vs[i]? = some v ∧ Rep b F0 v d ∧ gat (startD N ds) i = .val d ∧ (L2.start N vs)[i]? = some (some v)) ∨ gat (startD N ds) i = .un := fun i => by
    have gl : ∀ (l : List Dt) (m : Nat) (i : Nat), gat (l.map Sl.val ++ List.replicate m .un) i = (match l[i]? with | some d => .val d | none => .un) := fun l => by
      induction l with
      | nil =>
        intro m
        induction m with
        | zero => intro i; rfl
        | succ m ih =>
          intro i
          cases i with
          | zero => rfl
          | succ i => exact ih i
      | cons a r ih =>
        intro m i
        cases i with
        | zero => rfl
        | succ i =>
          exact ih m i
    have g1 := gl ds (N.length - ds.length) i
    cases e : ds[i]? with
    | none => right; unfold startD; rw [g1, e]
    | some d =>
      left
      obtain ⟨v, h1, h2⟩ := r.get' e
      refine ⟨d, v, rfl, h1, h2, by unfold startD; rw [g1, e], ?_⟩
      unfold L2.start
      have hl := (List.getElem?_eq_some_iff.mp h1).1
      rw [List.getElem?_append_left (by rw [List.length_map]; exact hl), List.getElem?_map, h1]
      rfl
  refine ⟨k, Sub.refl _, Ext.refl k, ?_, fun i => ?_, fun i j a hi hj => ?_⟩
  · unfold L2.start startD
    rw [List.length_append, List.length_append, List.length_map, List.length_map, List.length_replicate, List.length_replicate, r.length]
  · rcases at_ i with ⟨d, v, _, _, h, g, s⟩ | g
    · rw [g]; exact ⟨v, s, h⟩
    · rw [g]; exact True.intro
  · rcases at_ i with ⟨d, v, _, _, h, g, s⟩ | g
    · rw [g] at hi; cases hi
    · rw [g] at hi; cases hi
end
section
variable {P : Program} {w : World} {K : PySem.W.Frag} {mg : Str → Option Value} {base : Heap} {b : Bg}
/-- THE RULE for a def -/
theorem fn_D {x qual : Str} {st : Stmt} {f : Addr} {fd : FuncData} {N ps : List Str} {k : Nat} {T : DSp} (F : Fun K x qual st f fd) (S : FnScope N ps (defScope st))
    (hbody : ∀ (X : Cx) (outer : List Env) (cdv : Value) (A : Around) (s : Shared) (H : Hp) (E : L2.XK), X = (cxOf CX0 P w K mg base N qual (defScope st) f cdv A outer s H E).nox → Room k X.A → ∃ T', XSs (cxOf CX0 P w K mg base N qual (defScope st) f cdv A outer s H E).nox b (defBody st) T' ∧ ∀ (ds : List Dt) (R : Dt → Prop), ds.length = ps.length → T ds R → T' { nx := fun _ => R .non, rt := fun _ => R } (startD N ds)) :
    FnOk P w K mg base CX0 (k + 1) f fd ps (spD b ps.length T) := by
  refine F.ok S (fun vs H Q E h => ?_) (fun cdv A outer s H vs Q E hr h => ?_)
  · obtain ⟨F0, ds, R, h1, h2, h3, _⟩ := h
    rw [h2.length, h3]
  · obtain ⟨F0, ds, R, h1, h2, h3, h4, h5⟩ := h
    obtain ⟨T', ⟨t, t1, t2⟩, t3⟩ := hbody _ outer cdv A s H E rfl hr
    refine ⟨t, t1, t2 _ (start_nv (Fm := F0) h1 h2) (t3 ds R h3 h4) _ ⟨?_, ?_, ?_, ?_⟩⟩
    · intro F' H' σ γ n r
      exact h5 _ _ _ _ n.ext .non r
    · intro F' H' σ γ v d n r p
      exact h5 _ _ _ _ n.ext r p
    · intro F' H' σ γ n r
      exact r.elim
    · intro F' H' σ γ n r
      exact r.elim
end
end DL

namespace DL
open PySem PySem.Spec PyProof.Rows L2
section
variable {X : Cx} {b : Bg} {e e1 e2 e3 tg : Expr} {es : List Expr} {pos : Pos} {K : PySem.W.Frag} {Fx : Hp}
/-! ### chains as tests, stars -/
theorem t_chLeLe (ha : XE X b e1 Ta) (hb : XE X b e2 Tb) (hc : XE X b e3 Tc) (hm : lastMarks [.LtE, .LtE] [e2, e3] = false := by with_unfolding_all rfl) : XT X b (.Compare e1 [.LtE, .LtE] [e2, e3] pos) (tB1 (dChI (fun i j => decide (i ≤ j)) (fun i j => decide (i ≤ j)) Ta Tb Tc)) := by
  obtain ⟨_, h1, h2⟩ := ha; obtain ⟨_, g1, g2⟩ := hb; obtain ⟨_, f1, f2⟩ := hc
  exact ⟨_, pt_chain op_le op_le h1 g1 f1 hm, db_val (de_chain h2 g2 f2)⟩
@[reducible] def aStar (Ta : DT) (Tr : DAt) : DAt := fun γ P => Ta γ fun x => match x with | .lst xs => (Tr γ fun ys => P (xs ++ ys)) | .tup xs => (Tr γ fun ys => P (xs ++ ys)) | _ => False
theorem a_star {p : Pos} (ha : XE X b e Ta) (hr : XA X b es Tr) (hs : starEach (.Starred e p :: es) X.env = (true, eval e X.env) :: starEach es X.env := by rfl) : XA X b (.Starred e p :: es) (aStar Ta Tr) := by
  obtain ⟨_, h1, h2⟩ := ha; obtain ⟨_, g1, g2⟩ := hr
  refine ⟨_, StX.pa_star h1 g1 hs, fun P n t Q q => h2 _ n t _ fun v d F1 H1 x1 r1 t1 => ?_⟩
  cases r1 with
  | lst h r => exact ⟨_, _, rfl, .inr (SqL.of (x1.sub _ _ h)), g2 _ (n.to x1) t1 _ fun vs ds F2 H2 x2 r2 t2 => q _ _ F2 H2 (x1.trans x2) ((r.mono x2.grow).append r2) t2⟩
  | tup h r => exact ⟨_, _, rfl, .inl (SqT.of (x1.sub _ _ h)), g2 _ (n.to x1) t1 _ fun vs ds F2 H2 x2 r2 t2 => q _ _ F2 H2 (x1.trans x2) ((r.mono x2.grow).append r2) t2⟩
  | _ => exact t1.elim
/-! ### keywords: how they come to the parameters -/
@[reducible] def lenEq {α : Type} : List α → Nat → Bool
  | [], n => (match n with | 0 => true | _ + 1 => false)
  | _ :: r, n => (match n with | 0 => false | n + 1 => lenEq r n)
@[reducible] def getN {α : Type} : List α → Nat → Option α
  | [], _ => none
  | x :: _, 0 => some x
  | _ :: r, n + 1 => getN r n
@[reducible] def app {α : Type} : List α → List α → List α
  | [], ys => ys
  | x :: xs, ys => x :: app xs ys
@[reducible] def selGo {α : Type} (l : List α) : List Nat → List α
  | [] => []
  | i :: p => match getN l i with
    | some x => x :: selGo l p
    | none => selGo l p
@[reducible] def sel {α : Type} (n m : Nat) (p : List Nat) (us ws : List α) : List α := match lenEq us n, lenEq ws m with
  | true, true => selGo (app us ws) p
  | _, _ => []
theorem lenEq_len {α : Type} : ∀ {l : List α} {n : Nat}, lenEq l n = true → l.length = n
  | [], 0, _ => rfl
  | [], n + 1, h => by cases h
  | _ :: _, 0, h => by cases h
  | _ :: r, n + 1, h => congrArg (· + 1) (lenEq_len (l := r) h)
theorem lenEq_two {α β : Type} : ∀ {l : List α} {k : List β} {n : Nat}, l.length = k.length → lenEq l n = lenEq k n
  | [], [], 0, _ => rfl
  | [], [], n + 1, _ => rfl
  | [], _ :: _, _, h => by cases h
  | _ :: _, [], _, h => by cases h
  | _ :: _, _ :: _, 0, _ => rfl
  | _ :: r, _ :: s, n + 1, h => lenEq_two (l := r) (k := s) (Nat.succ.inj h)
theorem vals_sel {vs zs : List V} {us ws : List Value} (n m : Nat) (p : List Nat) (r : Vals vs us) (r2 : Vals zs ws) : Vals (sel n m p vs zs) (sel n m p us ws) := by
  have ra : Vals (app vs zs) (app us ws) := by
    induction r with
    | nil => exact r2
    | cons h _ ih => exact .cons h ih
  have rg : ∀ {l : List V} {k : List Value} (i : Nat), Vals l k → (∃ v u, getN l i = some v ∧ getN k i = some u ∧ RelV v u) ∨ (getN l i = none ∧ getN k i = none) := fun {l k} i h => by
    induction h generalizing i with
    | nil => exact .inr ⟨rfl, rfl⟩
    | cons h _ ih =>
      cases i with
      | zero => exact .inl ⟨_, _, rfl, rfl, h⟩
      | succ i => exact ih i
  have rs : ∀ p : List Nat, Vals (selGo (app vs zs) p) (selGo (app us ws) p) := fun p => by
    induction p with
    | nil => exact .nil
    | cons i p ih =>
      unfold selGo
      rcases rg i ra with ⟨v, u, h1, h2, h3⟩ | ⟨h1, h2⟩
      · rw [h1, h2]; exact .cons h3 ih
      · rw [h1, h2]; exact ih
  unfold sel
  rw [lenEq_two (n := n) r.length, lenEq_two (n := m) r2.length]
  cases lenEq us n <;> cases lenEq ws m <;> first | exact rs p | exact .nil
theorem rep_sel {F : Hp} {vs zs : List V} {us ws : List Dt} (n m : Nat) (p : List Nat) (r : RepL b F vs us) (r2 : RepL b F zs ws) : RepL b F (sel n m p vs zs) (sel n m p us ws) := by
  have ra : ∀ {vs : List V} {us : List Dt}, RepL b F vs us → RepL b F (app vs zs) (app us ws) := fun {vs us} r => by
    induction vs generalizing us with
    | nil => cases r; exact r2
    | cons v vs ih =>
      cases r with
      | cons h t => exact .cons h (ih t)
  have rg : ∀ {l : List V} {k : List Dt} (i : Nat), RepL b F l k → (∃ v u, getN l i = some v ∧ getN k i = some u ∧ Rep b F v u) ∨ (getN l i = none ∧ getN k i = none) := fun {l k} i h => by
    induction l generalizing i k with
    | nil => cases h; exact .inr ⟨rfl, rfl⟩
    | cons v l ih =>
      cases h with
      | cons h t =>
        cases i with
        | zero => exact .inl ⟨_, _, rfl, rfl, h⟩
        | succ i => exact ih i t
  have rs : ∀ p : List Nat, RepL b F (selGo (app vs zs) p) (selGo (app us ws) p) := fun p => by
    induction p with
    | nil => exact .nil
    | cons i p ih =>
      unfold selGo
      rcases rg i (ra r) with ⟨v, u, h1, h2, h3⟩ | ⟨h1, h2⟩
      · rw [h1, h2]; exact .cons h3 ih
      · rw [h1, h2]; exact ih
  unfold sel
  rw [lenEq_two (n := n) r.length, lenEq_two (n := m) r2.length]
  cases lenEq us n <;> cases lenEq ws m <;> first | exact rs p | exact .nil
theorem kb_mk {x qual : Str} {st : Stmt} {f : Addr} {fd : FuncData} (F : Fun K x qual st f fd) (n m : Nat) (p : List Nat) {ps ks : List Str} (hp : ps ≠ [])
    (h : ∀ (kV doc pm : Value) (an : Option Addr) (cdv ct : Value) (us ws : List Value), us.length = n → ws.length = m → bindArgs (PySem.W.fnOf x qual (defArgs st) (defBody st) (defScope st) .none kV doc pm an cdv ct) ⟨us, ks.zip ws⟩ = pure (ps.zip (sel n m p us ws))) : KBinds K fd ps ks (sel n m p) (sel n m p) := by
  obtain ⟨oc, od, kV, doc, pm, an, cdv, ct, osl, rfl, lk, hcd⟩ := F.ex
  refine ⟨fun s us ws _ hl => ?_, fun r r2 => vals_sel n m p r r2⟩
  cases h1 : lenEq us n with
  | false =>
    exfalso
    unfold sel at hl
    rw [h1] at hl
    exact hp (List.length_eq_zero_iff.mp hl.symm)
  | true =>
    cases h2 : lenEq ws m with
    | false =>
      exfalso
      unfold sel at hl
      rw [h1, h2] at hl
      exact hp (List.length_eq_zero_iff.mp hl.symm)
    | true => exact .of_eq (h kV doc pm an cdv ct us ws (lenEq_len h1) (lenEq_len h2))
/-! ### the law's own def: the bag is made, then the rest by its data -/
theorem xss_some {st : List Stmt} {T : Bg → DSt} (h : ∀ b, XSs X b st (T b)) : ∃ te, PSs X st te ∧ ∀ b, DS b te (T b) :=
  ⟨fun D σ H => ∃ b, (h b).ex.choose D σ H, ⟨fun pins s σ H D I ⟨b, hw⟩ => (h b).ex.choose_spec.1.run pins s σ H D I hw⟩, fun b {Fm F0 H0 F H σ γ} E n t D k => ⟨b, (h b).ex.choose_spec.2 E n t D k⟩⟩
end
/-! ### the bag: a list of the cells and four ints -/
@[reducible] def takeT : DSp := fun ds P => match ds with
  | [.bag, .int n] => 0 < n ∧ n < 1073741824 ∧ ∀ r : Int, 0 ≤ r → r < n → P (.int r)
  | _ => False
def bagD (cs : List Int) (i v m k : Int) : List Dt := [.lst (cs.map Dt.int), .int i, .int v, .int m, .int k]
section
variable {P : Program} {w : World} {K : PySem.W.Frag} {mg : Str → Option Value} {base : Heap} {a : Addr}
theorem repL_of_ints {b : Bg} {F : Hp} : ∀ ns : List Int, RepL b F (ns.map V.int) (ns.map Dt.int)
  | [] => .nil
  | n :: ns => .cons (.int n) (repL_of_ints ns)
def TakeEnd (a : Addr) (cs : List Int) (n : Int) (γ : Gm) (d : Dt) : Prop := ∃ (i' : Nat) (v' m' z' r : Int), gat γ 0 = .own a (bagD cs i' v' m' z') ∧ 0 ≤ m' ∧ m' < 2147483563 ∧ d = .int r ∧ 0 ≤ r ∧ r < n
theorem takeEnd {a : Addr} {cs : List Int} {n : Int} {γ : Gm} (i : Nat) {v m z r : Int} (h : gat γ 0 = .own a (bagD cs i v m z)) (h1 : 0 ≤ m) (h2 : m < 2147483563) (h3 : 0 ≤ r) (h4 : r < n) : TakeEnd a cs n γ (.int r) := ⟨i, v, m, z, r, h, h1, h2, rfl, h3, h4⟩
theorem tabS_less {H : Hp} {P a : Addr} {q : Str} {xs : List V} (h : LamX.TabS H P q) (ha : H a = some (.lst xs)) : LamX.TabS (less H a) P q := by
  obtain ⟨ps, h1, h2, h3⟩ := h
  refine ⟨ps, ?_, h2, fun pos cv hc => ?_⟩
  · rw [less_ne]
    · exact h1
    · intro z
      rw [z, ha] at h1
      cases h1
  · obtain ⟨c, e1, e2⟩ := h3 pos cv hc
    refine ⟨c, e1, ?_⟩
    rw [less_ne]
    · exact e2
    · intro z
      rw [z, ha] at e2
      unfold LamX.CodeO at e2
      cases e2
theorem fn_take {nm : Addr → Str} {tb : List Addr} {x qual : Str} {st : Stmt} {f : Addr} {fd : FuncData} {p1 p2 p3 p4 p5 : Str} {k : Nat} (F : Fun K x qual st f fd) (S : FnScope [p1, p2, p3, p4, p5] [p1, p2] (defScope st))
    (hbody : ∀ (X : Cx) (outer : List Env) (cdv : Value) (A : Around) (s : Shared) (H : Hp) (E : L2.XK), X = (cxOf CX0 P w K mg base [p1, p2, p3, p4, p5] qual (defScope st) f cdv A outer s H E).nox → Room k X.A → ∃ T', XSs (cxOf CX0 P w K mg base [p1, p2, p3, p4, p5] qual (defScope st) f cdv A outer s H E).nox ⟨none, nm, tb⟩ (defBody st) T' ∧
      ∀ (cs : List Int) (i : Nat) (v m z n : Int), cs.length ≤ 63 → 0 ≤ m → m < 2147483563 → 0 < n → n < 1073741824 →
        T' { nx := fun _ => False, rt := TakeEnd a cs n } [.own a (bagD cs i v m z), .val (.int n), .un, .un, .un]) :
    FnOk P w K mg base CX0 (k + 1) f fd [p1, p2] (spD ⟨some a, nm, tb⟩ 2 takeT) := by
  refine F.ok S (fun vs H Q E h => ?_) (fun cdv A outer s H vs Q E hr h => ?_)
  · obtain ⟨F0, ds, R, h1, h2, h3, _⟩ := h
    rw [h2.length, h3] <;> rfl
  · obtain ⟨F0, ds, R, h1, h2, h3, h4, h5⟩ := h
    obtain ⟨T', ⟨t, t1, t2⟩, t3⟩ := hbody _ outer cdv A s H E rfl hr
    cases h2 with
    | nil => exact h4.elim
    | cons ra rb =>
      cases rb with
      | nil => cases ra <;> exact h4.elim
      | cons rb rc =>
        cases rc with
        | cons _ _ => cases h3
        | nil =>
          cases ra <;> first | exact h4.elim | skip
          cases rb <;> first | exact h4.elim | skip
          rename_i a' ea n
          cases ea
          obtain ⟨n0, n1, hR⟩ := h4
          obtain ⟨hs, ⟨b0, c, cs, i, v, m, z, hc, hb, m0, m1, hl⟩, ntF, tbF⟩ := h1
          let F1 : Hp := fun q => if q = c then some (.lst (cs.map V.int)) else none
          have nc : c ≠ a := fun q => by
            rw [q, b0] at hc
            cases hc
          -- the entry without the bag, its cells alone known
          have f1c : F1 c = some (.lst (cs.map V.int)) := if_pos rfl
          have f1n : ∀ q, q ≠ c → F1 q = none := fun q hq => if_neg hq
          have f1s : Sub F1 H := fun q o hq => by
            by_cases e : q = c
            · subst e; rw [f1c] at hq; cases hq; exact hs _ _ hc
            · rw [f1n q e] at hq; cases hq
          have f1a : F1 a = none := f1n a nc.symm
          have ok0 : Ok ⟨none, nm, tb⟩ F1 (less H a) := ⟨fun q o hq => by rw [less_ne (ne_of_none hq f1a)]; exact f1s q o hq, trivial, fun q o hq => by
            by_cases e : q = c
            · subst e; rw [f1c] at hq; cases hq; exact .lst
            · (rw [f1n q e] at hq; cases hq), fun P hP => tabS_less (tbF P hP) hb⟩
          have ext0 : Ext ⟨none, nm, tb⟩ F1 (less H a) F1 H := ⟨fun q o _ hq _ => less_sub q o hq, Sub.refl _, f1s, fun _ _ _ _ => rfl, trivial, ok0.2.2.1, fun q ps hq => ⟨ps, less_sub q _ hq⟩, tbF, fun _ _ _ e => nomatch e⟩
          have nv : Nv ⟨none, nm, tb⟩ F1 F1 (less H a) F1 H (L2.start [p1, p2, p3, p4, p5] [.ref a, .int n]) [.own a (bagD cs i v m z), .val (.int n), .un, .un, .un] := by
            refine ⟨ok0, Sub.refl _, ext0, rfl, fun j => ?_, fun j l p hj hl' => ?_⟩
            · match j with
              | 0 => exact ⟨_, rfl, hb, .cons (.lst f1c (repL_of_ints cs)) (.cons (.int _) (.cons (.int _) (.cons (.int _) (.cons (.int _) .nil)))), f1a, less_at, fun q => nomatch q⟩
              | 1 => exact ⟨_, rfl, .int n⟩
              | 2 => exact True.intro
              | 3 => exact True.intro
              | 4 => exact True.intro
              | j + 5 => exact True.intro
            · have z0 : ∀ (j : Nat) (p : Addr), (gat [Sl.own a (bagD cs i v m z), .val (.int n), .un, .un, .un] j).adr = some p → j = 0 := fun j p hj => by
                match j, hj with
                | 0, _ => rfl
                | 1, h => cases h
                | 2, h => cases h
                | 3, h => cases h
                | 4, h => cases h
                | j + 5, h => cases h
              rw [z0 j p hj, z0 l p hl']
          refine ⟨t, t1, t2 _ nv (t3 cs i v m z n hl m0 m1 n0 n1) _ ⟨fun _ r => r.elim, ?_, fun _ r => r.elim, fun _ r => r.elim⟩⟩
          rintro F' H' σ γ u d n' r ⟨i', v', m', z', rr, hg, q0, q1, rfl, r0, r1⟩
          cases r
          -- the bag is still the first slot's list; where it stands is where it stood
          have hsl := n'.slot 0
          rw [hg] at hsl
          obtain ⟨ws, g1, g2, g3, g4, g5, g6⟩ := hsl
          have x := n'.ext
          -- its first item is the cells' list still: what holds the cells in F' is a list of the same ints
          cases g3 with
          | cons q1' q2' =>
            cases q2' with
            | cons q2' q3' =>
              cases q3' with
              | cons q3' q4' =>
                cases q4' with
                | cons q4' q5' =>
                  cases q5' with
                  | cons q5' q6' =>
                    cases q6'
                    cases q1' with
                    | @lst c1 vs1 _ hc' rc' =>
                      cases q2'
                      cases q3'
                      cases q4'
                      cases q5'
                      cases repL_ints rc'
                      have c1h : c1 = c ∨ H c1 = none := by
                        by_cases e : c1 = c
                        · exact .inl e
                        · right
                          cases w : H c1 with
                          | none => rfl
                          | some o =>
                            have na : c1 ≠ a := fun e => by rw [e, g4] at hc'; cases hc'
                            have := x.new c1 o (by rw [less_ne na]; exact w) (fun φ e => by
                              have h7 := x.keep c1 o (fun e => nomatch e) (by rw [less_ne na]; exact w) (fun ps z => by rw [e] at z; cases z)
                              rw [x.sub _ _ hc', e] at h7
                              cases h7)
                            rw [hc', f1n c1 e] at this
                            cases this
                      let F2 : Hp := fun q => match F0 q with
                        | some o => some o
                        | none => F' q
                      have f2s : ∀ q o, F0 q = some o → F2 q = some o := fun q o h => by
                        show (match F0 q with | some o => some o | none => F' q) = _
                        rw [h]
                      have f2n : ∀ q, F0 q = none → F2 q = F' q := fun q h => by
                        show (match F0 q with | some o => some o | none => F' q) = _
                        rw [h]
                      have h1c : F2 c1 = some (.lst (cs.map V.int)) := by
                        rcases c1h with e | e
                        · rw [e]; exact f2s _ _ hc
                        · rw [f2n c1 (by cases w : F0 c1 with | none => rfl | some o => rw [hs _ _ w] at e; cases e)]
                          rw [hc', repL_ints rc']
                      have ntF2 : NoT F2 := fun q o h => by
                        cases w : F0 q with
                        | some u =>
                          rw [f2s q u w] at h
                          cases h
                          exact ntF q _ w
                        | none =>
                          rw [f2n q w] at h
                          exact x.nt q o h
                      have f2a : F2 a = none := by rw [f2n a b0]; exact g4
                      refine h5 _ _ F2 H' ⟨fun p o np hp nt => x.keep p o (fun e => nomatch e) (by rw [less_ne (fun e => np (congrArg some e.symm))]; exact hp) nt, fun q o h => f2s q o h, fun q o h => ?_, fun p o hp ne => ?_, ⟨f2a, c1, cs, i', v', m', z', h1c, g2, q0, q1, hl⟩, ntF2, fun p ps hp => x.tbl p ps (by rw [less_ne (fun e => by rw [e, hb] at hp; cases hp)]; exact hp), x.tabs, fun p c' r' ep hp => ?_⟩ (.int rr) (hR rr r0 r1)
                      · cases w : F0 q with
                        | none => rw [f2n q w] at h; exact x.sub q o h
                        | some u =>
                          rw [f2s q u w] at h
                          have e3 := Option.some.inj h
                          rw [← e3]
                          exact x.keep q u (fun e => nomatch e) (by rw [less_ne (ne_of_none w b0)]; exact hs q u w) (ntF q u w)
                      · cases w : F0 p with
                        | some u => exact f2s p u w
                        | none =>
                          rw [f2n p w]
                          by_cases ep : p = a
                          · rw [ep]; exact g4
                          · rw [x.new p o (by rw [less_ne ep]; exact hp) ne]
                            exact f1n p fun e => by rw [e, hc] at w; cases w
                      · cases ep
                        rw [hb] at hp
                        cases hp
                        exact ⟨c1, _, g2, c1h⟩
end
/-! ### comparisons as tests -/
section
variable {X : Cx} {b : Bg} {e e1 e2 e3 tg : Expr} {es : List Expr} {pos : Pos}
theorem t_op {op : CmpOp} {r : R2} {T} (ho : OpR X (compareOp op) r) (h : D2 b r T) (hm : behindInMarks op e2 = false) (ha : XE X b e1 Ta) (hb : XE X b e2 Tb) : XT X b (.Compare e1 [op] [e2] pos) (tB1 (d2 T Ta Tb)) := by
  obtain ⟨_, h1, h2⟩ := ha; obtain ⟨_, g1, g2⟩ := hb
  exact ⟨_, pt_cmpR ho h1 g1 hm, db_val (de_op h h2 g2)⟩
theorem t_lt (ha : XE X b e1 Ta) (hb : XE X b e2 Tb) : XT X b (.Compare e1 [.Lt] [e2] pos) (tB1 (d2 (vBl fun i j => decide (i < j)) Ta Tb)) := t_op op_lt (d2_I0 fun i j _ => .bl _) (nomark _) ha hb
theorem t_le (ha : XE X b e1 Ta) (hb : XE X b e2 Tb) : XT X b (.Compare e1 [.LtE] [e2] pos) (tB1 (d2 (vBl fun i j => decide (i ≤ j)) Ta Tb)) := t_op op_le (d2_I0 fun i j _ => .bl _) (nomark _) ha hb
theorem t_gt (ha : XE X b e1 Ta) (hb : XE X b e2 Tb) : XT X b (.Compare e1 [.Gt] [e2] pos) (tB1 (d2 (vBl fun i j => decide (j < i)) Ta Tb)) := t_op op_gt (d2_I0 fun i j _ => .bl _) (nomark _) ha hb
theorem t_ge (ha : XE X b e1 Ta) (hb : XE X b e2 Tb) : XT X b (.Compare e1 [.GtE] [e2] pos) (tB1 (d2 (vBl fun i j => decide (j ≤ i)) Ta Tb)) := t_op op_ge (d2_I0 fun i j _ => .bl _) (nomark _) ha hb
theorem t_eq (hu : X.A.units + 64 < cLine) (ha : XE X b e1 Ta) (hb : XE X b e2 Tb) : XT X b (.Compare e1 [.Eq] [e2] pos) (tB1 (d2 (vEq false) Ta Tb)) := t_op (op_eq.or (op_eqD hu)) d2_eqD (nomark _) ha hb
theorem t_ne (hu : X.A.units + 64 < cLine) (ha : XE X b e1 Ta) (hb : XE X b e2 Tb) : XT X b (.Compare e1 [.NotEq] [e2] pos) (tB1 (d2 (vEq true) Ta Tb)) := t_op (op_ne.or (op_neD hu)) d2_neD (nomark _) ha hb
theorem t_in (ha : XE X b e1 Ta) (hb : XE X b e2 Tb) (hm : behindInMarks .In e2 = false := by rfl) : XT X b (.Compare e1 [.In] [e2] pos) (tB1 (d2 (vIn false) Ta Tb)) := t_op op_in_seq d2_in hm ha hb
theorem t_notIn (ha : XE X b e1 Ta) (hb : XE X b e2 Tb) (hm : behindInMarks .NotIn e2 = false := by rfl) : XT X b (.Compare e1 [.NotIn] [e2] pos) (tB1 (d2 (vIn true) Ta Tb)) := t_op op_notIn_seq d2_in hm ha hb
theorem t_isN {j p2} (ha : XE X b e1 Ta) : XT X b (.Compare e1 [.Is] [.Constant .none j p2] pos) (tB1 (dIsN Ta)) := by
  obtain ⟨_, h1, h2⟩ := ha
  exact ⟨_, pt_cmp (pc_isN h1) (by rfl), db_val (te := tIsN _) fun P n t Q q => h2 _ n t _ fun v d F1 H1 x1 r1 t1 => q _ _ F1 H1 x1 (by rw [rep_non r1]; exact .bl _) t1⟩
theorem t_notN {j p2} (ha : XE X b e1 Ta) : XT X b (.Compare e1 [.IsNot] [.Constant .none j p2] pos) (tB1 (dNotN Ta)) := by
  obtain ⟨_, h1, h2⟩ := ha
  exact ⟨_, pt_cmp (pc_notN h1) (by rfl), db_val (te := tNotN _) fun P n t Q q => h2 _ n t _ fun v d F1 H1 x1 r1 t1 => q _ _ F1 H1 x1 (by rw [rep_non r1, nB_eq]; exact .bl _) t1⟩
theorem t_isB (ha : XE X b e1 Ta) (hb : XE X b e2 Tb) : XT X b (.Compare e1 [.Is] [e2] pos) (tB1 (d2 (vIsB false) Ta Tb)) := t_op op_isBl d2_isB (nomark _) ha hb
theorem t_notB (ha : XE X b e1 Ta) (hb : XE X b e2 Tb) : XT X b (.Compare e1 [.IsNot] [e2] pos) (tB1 (d2 (vIsB true) Ta Tb)) := t_op op_notBl d2_notB (nomark _) ha hb
end
/-! ### a word behind a statement; and, chains by their values -/
section
variable {X : Cx} {b : Bg}
def tCutS (t : TS) : TS := fun D σ H => ∃ Mid : L2.St → Hp → Prop, t { D with nx := Mid } σ H ∧ ∀ σ' H', Mid σ' H' → D.nx σ' H'
theorem ps_cut {st : Stmt} {t : TS} (h1 : PS X st t) : PS X st (tCutS t) := by
  refine ⟨fun pins s σ H D I h => ?_⟩
  obtain ⟨Mid, hm, hu⟩ := h
  refine thn (h1.run pins s σ H { D with nx := Mid } I hm) fun f s1 q => ?_
  cases f with
  | next =>
    obtain ⟨σ', H', I', q⟩ := q
    exact ⟨σ', H', I', hu σ' H' q⟩
  | ret v => exact q
  | brk => exact q
  | cont => exact q
@[reducible] def sCut (t : DSt) : DSt := fun E γ => Word (∃ M : Gm → Prop, t { E with nx := M } γ ∧ ∀ γ', M γ' → E.nx γ')
theorem s_cut {st : Stmt} {T : DSt} (h : XS X b st T) : XS X b st (sCut T) := by
  obtain ⟨_, h1, h2⟩ := h
  refine ⟨_, ps_cut h1, fun {Fm F0 H0 F H σ γ} E n t D k => ?_⟩
  obtain ⟨M, t1, t2⟩ := t
  exact ⟨fun σ' H' => ∃ F' γ', Nv b Fm F0 H0 F' H' σ' γ' ∧ M γ', h2 _ n t1 _ ⟨fun n' m => ⟨_, _, n', m⟩, k.rt, k.bk, k.ct⟩, fun σ' H' ⟨F', γ', n', m⟩ => k.nx n' (t2 γ' m)⟩
end
theorem dAnd_go {Ta Tb : DT} {γ : Gm} {P : Dt → Prop} (h : Ta γ fun x => match x with | .bl true => Tb γ P | .bl false => P (.bl false) | _ => False) : dAnd Ta Tb γ P := h
theorem dOr_go {Ta Tb : DT} {γ : Gm} {P : Dt → Prop} (h : Ta γ fun x => match x with | .bl false => Tb γ P | .bl true => P (.bl true) | _ => False) : dOr Ta Tb γ P := h
theorem dAnd_val {Ta Tb : DT} {γ : Gm} {P : Dt → Prop} (a c : Bool) (ha : ∀ Q : Dt → Prop, Q (.bl a) → Ta γ Q) (hb : ∀ Q : Dt → Prop, Q (.bl c) → Tb γ Q) (h : P (.bl (a && c))) : dAnd Ta Tb γ P := by
  refine ha _ ?_
  cases a with
  | true => exact hb _ h
  | false => exact h
theorem dOr_val {Ta Tb : DT} {γ : Gm} {P : Dt → Prop} (a c : Bool) (ha : ∀ Q : Dt → Prop, Q (.bl a) → Ta γ Q) (hb : ∀ Q : Dt → Prop, Q (.bl c) → Tb γ Q) (h : P (.bl (a || c))) : dOr Ta Tb γ P := by
  refine ha _ ?_
  cases a with
  | true => exact h
  | false => exact hb _ h
theorem dChI_go {p p' : Int → Int → Bool} {Ta Tb Tc : DT} {γ : Gm} {P : Dt → Prop} (h : Ta γ fun x => Tb γ fun y => match x, y with | .int i, .int j => (match p i j with | true => (Tc γ fun z => (match z with | .int k => P (.bl (p' j k)) | _ => False)) | false => P (.bl false)) | _, _ => False) : dChI p p' Ta Tb Tc γ P := h
theorem dChI_val {p p' : Int → Int → Bool} {Ta Tb Tc : DT} {γ : Gm} {P : Dt → Prop} (i j k : Int) (ha : ∀ Q : Dt → Prop, Q (.int i) → Ta γ Q) (hb : ∀ Q : Dt → Prop, Q (.int j) → Tb γ Q) (hc : ∀ Q : Dt → Prop, Q (.int k) → Tc γ Q) (h : P (.bl (p i j && p' j k))) : dChI p p' Ta Tb Tc γ P := by
  refine ha _ (hb _ ?_)
  show (match p i j with | true => _ | false => _)
  cases e : p i j with
  | true => rw [e] at h; exact hc _ h
  | false => rw [e] at h; exact h
end DL

namespace DL
open PySem PySem.Spec PyProof.Rows L2
/-! ### the bag is made -/
def spBag (K : PySem.W.Frag) : Sp := fun vs H Q _ => ∃ (a : Addr) (ns : List Int), vs = [.ref a] ∧ SqL K H a (ns.map V.int) ∧ ns.length ≤ 63 ∧
  ∀ (p c : Addr) (cs : List Int) (m : Int) (H' : Hp), Evl.Ex H H' → cs.length ≤ 63 → 0 ≤ m → m < 2147483563 → H' c = some (.lst (cs.map V.int)) → H' p = some (.lst [.ref c, .int 0, .int 0, .int m, .int 0]) → Q (.ref p) H'
theorem cut63 (xs : List V) (h : xs.length ≤ 63) : cutV xs none (some 63) = xs := by
  unfold cutV
  rw [HT.sIx_none, show HT.sIx xs.length xs.length (some 63) = min 63 xs.length from HT.sIx_nat xs.length xs.length 63]
  rw [List.drop_zero, Nat.sub_zero, List.take_of_length_le (by omega)]
section
variable {K : PySem.W.Frag} {σ : L2.St} {H : Hp} {D : Ends}
def rInt1 : List V → Hp → VK → Prop := fun xs H Q => (∃ i, xs = [.int i] ∧ Q (.int i) H) ∨ ∃ k, xs = [.bl k] ∧ Q (.int (if k then 1 else 0)) H
def rLen1 (K : PySem.W.Frag) : List V → Hp → VK → Prop := fun xs H Q => ∃ x n, xs = [x] ∧ LenV K x H n ∧ Q (.int n) H
theorem rc_int {i : Int} : Evl.RC rInt1 [.int i] H (.int i) := fun H1 _ Q q => .inl ⟨i, rfl, q H1 (Evl.Ex.refl _)⟩
/-- the reading of the bag's making -/
theorem read_bag {a : Addr} {ns : List Int} {c1 c2 c3 c4 c5 : Int} (hS : SqL K H a (ns.map V.int)) (hl : ns.length ≤ 63) (h4 : c4 = 2147483563) (h5 : c5 = 63) (h1 : 0 ≤ c1 ∧ c1 < 1000000000) (h2 : 0 ≤ c2 ∧ c2 < 1000000) {Q : VK} {nx : L2.St → Hp → Prop}
    (q : ∀ (p c : Addr) (cs : List Int) (m : Int) (H' : Hp), Evl.Ex H H' → cs.length ≤ 63 → 0 ≤ m → m < 2147483563 → H' c = some (.lst (cs.map V.int)) → H' p = some (.lst [.ref c, .int 0, .int 0, .int m, .int 0]) → Q (.ref p) H') :
    tSeq (tAsg (tLc (iList K (tSl (rSlL K) (tVar 0) tNoPart (tPart (tC (.int c5))))) (gName 3) tYes (tCB rInt1 (tCons (tVar 3) tNil)) [3]) (gName 1))
      (tSeq (tAsg (tOp (rI0 fun i j => .int (i + j)) (tC (.int c1)) (tOp (rI CMul fun i j => .int (i * j)) (tC (.int c2)) (tCB (rLen1 K) (tCons (tVar 1) tNil)))) (gName 2))
      (tSeq (tFor (iList K (tVar 1)) (gName 3) (tAsg (tOp (rI (fun _ j => 0 < j) fun i j => .int (i % j)) (tCB rInt1 (tCons (tOp (rI0 fun i j => .int (i + j)) (tOp (rI CMul fun i j => .int (i * j)) (tVar 2) (tC (.int c3))) (tVar 3)) tNil)) (tC (.int c4))) (gName 2)))
      (tRet (tLst (tCons (tVar 1) (tCons (tC (.int 0)) (tCons (tC (.int 0)) (tCons (tVar 2) (tCons (tC (.int 0)) tNil)))))))) ) { nx := nx, rt := Q } [some (.ref a), none, none, none] H := by
  subst h4 h5
  have hv : (ns.map V.int).length ≤ 63 := by rw [List.length_map]; exact hl
  refine Evl.q_asgL (Evl.el_lcNL (xs := ns.map V.int) (fun _ => true) (fun i => .int (ns.getD i 0)) ?_ (by omega) (fun x => rfl) (fun i x H1 _ _ H2 e2 Q' q' => q' H2 (Evl.Ex.refl _)) (fun i x H1 e hx _ => ?_)) fun c H1 hc e1 hh1 => ?_
  · have := Evl.el_sl (K := K) (te := tVar 0) (tl := tNoPart) (th := tPart (tC (.int 63))) (σ := [some (V.ref a), none, none, none]) (H := H) (Evl.ev_var (v := .ref a) rfl) Evl.eo_none (Evl.eo_some Evl.ev_c) hS
    rw [cut63 _ hv] at this
    exact this
  · have ex : x = .int (ns.getD i 0) := by
      rw [List.getElem?_map] at hx
      cases e : ns[i]? with
      | none => rw [e] at hx; cases hx
      | some z =>
        rw [e] at hx
        rw [List.getD_eq_getElem?_getD, e]
        exact (Option.some.inj hx).symm
    subst ex
    exact Evl.ev_cb (Evl.ea_cons (Evl.ev_var rfl) Evl.ea_nil) rc_int
  · -- what the list holds
    have h1' : H1 c = some (.lst (ns.map V.int)) := by
      rw [hh1]
      congr 2
      unfold Evl.given
      rw [List.filter_eq_self.mpr (fun _ _ => rfl)]
      apply List.ext_getElem?
      intro i
      rw [List.getElem?_map, List.getElem?_map]
      by_cases hi : i < ns.length
      · rw [List.getElem?_range (by rw [List.length_map]; exact hi), List.getElem?_eq_getElem hi]
        show some (V.int (ns.getD i 0)) = some (V.int ns[i])
        rw [List.getD_eq_getElem?_getD, List.getElem?_eq_getElem hi] <;> rfl
      · rw [List.getElem?_eq_none (by rw [List.length_range, List.length_map]; omega), List.getElem?_eq_none (by omega)] <;> rfl
    have s1 : SqL K H1 c (ns.map V.int) := SqL.of h1'
    refine Evl.q_asg (v := .int (c1 + c2 * ((ns.map V.int).length : Int))) (Evl.ev_op Evl.ev_c (Evl.ev_op Evl.ev_c (z := .int (c2 * ((ns.map V.int).length : Int))) (Evl.ev_cb (z := .int ((ns.map V.int).length : Int)) (Evl.ea_cons (Evl.ev_var (v := .ref c) rfl) Evl.ea_nil) fun H2 e2 Q' q' => ⟨_, _, rfl, .inl ⟨_, Evl.ex_l e2 s1, rfl⟩, q' H2 (Evl.Ex.refl _)⟩) (Evl.rv_I (.inl (by omega)))) Evl.rv_I0) fun H2 e2 => ?_
    have s2 : SqL K H2 c (ns.map V.int) := Evl.ex_l e2 s1
    refine Evl.q_forLn (xs := ns.map V.int) (Evl.ev_var (v := .ref c) rfl) s2 (fun i σ' H' => Evl.Ex H2 H' ∧ ∃ (m : Int) (y : Option V), σ' = [some (.ref a), some (.ref c), some (.int m), y] ∧ 0 ≤ m ∧ m < 2147483563) (fun H3 e3 => ⟨e3, _, none, rfl, ?_⟩) (fun i σ' H' _ p => Evl.ex_l p.1 s2) ?_ ?_
    · have h7 : (0 : Int) ≤ ((ns.map V.int).length : Int) := Int.natCast_nonneg _
      have h8 : ((ns.map V.int).length : Int) ≤ 63 := by omega
      have h9 := Int.mul_nonneg h2.1 h7
      have h10 : c2 * ((ns.map V.int).length : Int) ≤ 1000000 * 63 := Int.mul_le_mul (by omega) h8 h7 (by decide)
      omega
    · rintro i x σ' H' hx ⟨e3, m, y, rfl, m0, m1⟩
      have ex : ∃ z, x = V.int z := by
        rw [List.getElem?_map] at hx
        cases e : ns[i]? with
        | none => rw [e] at hx; cases hx
        | some z => rw [e] at hx; exact ⟨z, (Option.some.inj hx).symm⟩
      obtain ⟨z, rfl⟩ := ex
      have mb : -(2 ^ 64) < m ∧ m < 2 ^ 64 := by omega
      refine Evl.s_asg (v := .int ((m * c3 + z) % 2147483563)) (Evl.ev_op (Evl.ev_cb (z := .int (m * c3 + z)) (Evl.ea_cons (Evl.ev_op (Evl.ev_op (Evl.ev_var (v := .int m) rfl) Evl.ev_c (Evl.rv_I (.inl mb))) (Evl.ev_var (v := .int z) rfl) Evl.rv_I0) Evl.ea_nil) rc_int) Evl.ev_c (Evl.rv_I (by decide))) fun H4 e4 => ?_
      refine ⟨e3.trans e4, _, _, rfl, ⟨Int.emod_nonneg _ (by decide), Int.emod_lt_of_pos _ (by decide)⟩⟩
    · rintro σ' H' ⟨e3, m, y, rfl, m0, m1⟩
      refine Evl.s_retL (xs := [.ref c, .int 0, .int 0, .int m, .int 0]) (Evl.el_lst (Evl.ea_cons (Evl.ev_var rfl) (Evl.ea_cons Evl.ev_c (Evl.ea_cons Evl.ev_c (Evl.ea_cons (Evl.ev_var rfl) (Evl.ea_cons Evl.ev_c Evl.ea_nil))))) (by show 5 ≤ 100000; decide)) fun p H4 _ e4 h4 => ?_
      exact q p c ns m H4 (((e1.trans e2).trans e3).trans e4) hl m0 m1 (e4 c _ (e3 c _ (e2 c _ h1'))) h4
end
end DL

namespace DL
open PySem PySem.Spec PyProof.Rows L2
theorem law_rest {nm : Addr → Str} {tb : List Addr} {X : Cx} {st : List Stmt} {T : Addr → DSt} (h : ∀ a : Addr, XSs X ⟨some a, nm, tb⟩ st (T a)) : ∃ te, PSs X st te ∧ ∀ a, DS ⟨some a, nm, tb⟩ te (T a) :=
  ⟨fun D σ H => ∃ a, (h a).ex.choose D σ H, ⟨fun pins s σ H D I ⟨a, hw⟩ => (h a).ex.choose_spec.1.run pins s σ H D I hw⟩, fun a {Fm F0 H0 F H σ γ} E n t D k => ⟨a, (h a).ex.choose_spec.2 E n t D k⟩⟩
theorem law_go {nm : Addr → Str} {tb : List Addr} {te : TS} {T : Addr → DSt} {γ : Gm} (t2 : ∀ a, DS ⟨some a, nm, tb⟩ te (T a)) {p c : Addr} {cs : List Int} {m : Int} {H' : Hp} (hcs : cs.length ≤ 63) (m0 : 0 ≤ m) (m1 : m < 2147483563) (hc : H' c = some (.lst (cs.map V.int))) (hp : H' p = some (.lst [.ref c, .int 0, .int 0, .int m, .int 0])) (htb : TabsOk ⟨some p, nm, tb⟩ H' := by intro _ h; cases h)
    {σ : L2.St} {N : List Str} {i : Nat} {Q : VK} {nx : L2.St → Hp → Prop} (hσ : σ.length = N.length) (hγ : gset (List.replicate N.length .un) i (.val .bag) = γ) (q : ∀ H', Q (.bl true) H') (h : T p { nx := fun _ => False, rt := fun _ d => d = .bl true } γ) : te { nx := nx, rt := Q } (σ.set i (some (.ref p))) H' := by
  have nc : p ≠ c := fun e => by
    rw [e, hc] at hp
    cases cs with
    | nil => cases hp
    | cons z r => cases hp
  let F : Hp := fun q => if q = c then some (.lst (cs.map V.int)) else none
  have fc : F c = some (.lst (cs.map V.int)) := if_pos rfl
  have fp : F p = none := if_neg nc
  have ok : Ok ⟨some p, nm, tb⟩ F H' := ⟨(fun a o e => by
    by_cases z : a = c
    · subst z; rw [fc] at e; cases e; exact hc
    · rw [show F a = none from if_neg z] at e; cases e), ⟨fp, c, cs, 0, 0, m, 0, fc, hp, m0, m1, hcs⟩, fun a o e => by
    by_cases z : a = c
    · subst z; rw [fc] at e; cases e; exact .lst
    · (rw [show F a = none from if_neg z] at e; cases e), htb⟩
  have gun : ∀ (n j : Nat), gat (List.replicate n .un) j = .un := fun n => by
    induction n with
    | zero => intro j; rfl
    | succ n ih =>
      intro j
      cases j with
      | zero => rfl
      | succ j => exact ih j
  have n0 : Nv ⟨some p, nm, tb⟩ F F H' F H' σ (List.replicate N.length .un) := ⟨ok, Sub.refl _, Ext.refl ok, by rw [List.length_replicate]; exact hσ, fun j => by rw [gun]; exact True.intro, fun j k l h1 _ => by rw [gun] at h1; cases h1⟩
  have n1 := n0.set i (v := .ref p) (d := .bag) (.bag rfl)
  rw [hγ] at n1
  exact t2 p _ n1 h _ ⟨fun _ r => r.elim, fun n r e => by
    cases (show _ = Dt.bl true from e)
    cases r
    exact q _, fun _ r => r.elim, fun _ r => r.elim⟩
/-! ### drawn items, equal data -/
@[reducible] def ofT : DSp := fun ds P => match ds with
  | [.bag, .lst xs] => 0 < xs.length ∧ xs.length ≤ 100000 ∧ ∀ d, d ∈ xs → P d
  | [.bag, .tup xs] => 0 < xs.length ∧ xs.length ≤ 100000 ∧ ∀ d, d ∈ xs → P d
  | [.bag, .str z] => 0 < z.length ∧ z.length ≤ 100000 ∧ ∀ c, c ∈ z.cps.toList → P (.str ⟨#[c]⟩)
  | _ => False
mutual
def dep : Dt → Nat
  | .lst xs => depL xs + 1
  | .tup xs => depL xs + 1
  | _ => 1
def depL : List Dt → Nat
  | [] => 0
  | x :: xs => max (dep x) (depL xs)
end
mutual
/-- data that == goes over, lists of at most 100000 -/
def okS : Dt → Bool
  | .lst xs => decide (xs.length ≤ 100000) && okSL xs
  | .tup xs => decide (xs.length ≤ 100000) && okSL xs
  | .ins _ _ => false
  | .dT _ => false
  | .dK _ => false
  | .ptr _ => false
  | .bag => false
  | .exc _ _ => false
  | .lam _ _ => false
  | .clo _ _ => false
  | _ => true
def okSL : List Dt → Bool
  | [] => true
  | x :: xs => okS x && okSL xs
end
@[reducible] def sameT (n : Nat) : DSp := fun ds P => match ds with
  | [x, y] => x = y ∧ okS y = true ∧ dep y ≤ n ∧ P (.bl true)
  | _ => False
theorem dep_pos : ∀ d : Dt, 1 ≤ dep d
  | .lst xs => by unfold dep; omega
  | .tup xs => by unfold dep; omega
  | .non => by unfold dep; omega
  | .bl _ => by unfold dep; omega
  | .int _ => by unfold dep; omega
  | .str _ => by unfold dep; omega
  | .ins _ _ => by unfold dep; omega
  | .dT _ => by unfold dep; omega
  | .dK _ => by unfold dep; omega
  | .ptr _ => by unfold dep; omega
  | .bag => by unfold dep; omega
  | .exc _ _ => by unfold dep; omega
  | .lam _ _ => by unfold dep; omega
  | .clo _ _ => by unfold dep; omega
theorem depL_mem : ∀ {xs : List Dt} {x : Dt}, x ∈ xs → dep x ≤ depL xs
  | y :: ys, x, h => by
    show dep x ≤ max (dep y) (depL ys)
    rcases List.mem_cons.mp h with e | h
    · rw [e]; omega
    · have := depL_mem h; omega
theorem okSL_mem : ∀ {xs : List Dt} {x : Dt}, okSL xs = true → x ∈ xs → okS x = true
  | y :: ys, x, k, h => by
    have k2 : (okS y && okSL ys) = true := k
    rw [Bool.and_eq_true] at k2
    rcases List.mem_cons.mp h with e | h
    · rw [e]; exact k2.1
    · exact okSL_mem k2.2 h
section
variable {P : Program} {w : World} {K : PySem.W.Frag} {mg : Str → Option Value} {base : Heap} {b : Bg}
theorem sameT_zero {k : Nat} {f : Addr} {fd : FuncData} {p1 p2 : Str} : FnOk P w K mg base CX0 k f fd [p1, p2] (spD b 2 (sameT 0)) := by
  have no : ∀ vs H Q E, ¬ spD b 2 (sameT 0) vs H Q E := fun vs H Q E h => by
    obtain ⟨F, ds, R, _, _, hl, ht, _⟩ := h
    match ds, ht with
    | [x, y], ht =>
      obtain ⟨_, _, h0, _⟩ := ht
      have := dep_pos y
      omega
  exact ⟨fun vs H Q E h => (no vs H Q E h).elim, fun A outer s H args us vs Q E _ _ _ _ h => (no vs H Q E h).elim⟩
end
theorem atI_mem {α : Type} {xs : List α} {r : Int} (h0 : 0 ≤ r) (h1 : r < (xs.length : Int)) : ∃ d, d ∈ xs ∧ atI xs r = some d := by
  obtain ⟨n, rfl⟩ := Int.eq_ofNat_of_zero_le h0
  have hn : n < xs.length := by omega
  exact ⟨xs[n], List.getElem_mem hn, atI_nat (List.getElem?_eq_getElem hn)⟩
/-- a comprehension that gives f of each item -/
theorem lc_map {TI : DAt} {Tg : Dt → Gm → (Gm → Prop) → Prop} {Tt : DBt} {Te : DT} {vs : List Nat} {γ : Gm} {R : List Dt → Prop} (f : Dt → Dt)
    (h : TI γ fun xs => xs.length ≤ 100000 ∧ (∀ d, d ∈ xs → ∀ Q : Dt → Prop, Q (f d) → Tg d (gwipe γ vs) fun γ2 => Tt γ2 fun c => (match c with | true => Te γ2 Q | false => False)) ∧ R (xs.map f))
    (mI : ∀ {A B : List Dt → Prop}, (∀ xs, A xs → B xs) → TI γ A → TI γ B) (mG : ∀ {d γ} {A B : Gm → Prop}, (∀ g, A g → B g) → Tg d γ A → Tg d γ B) (mT : ∀ {γ} {A B : Bool → Prop}, (∀ g, A g → B g) → Tt γ A → Tt γ B) : dLc TI Tg Tt Te vs γ R := by
  unfold dLc
  refine mI (fun xs hx => ?_) h
  obtain ⟨hz, hf, hr⟩ := hx
  refine ⟨hz, fun i acc => acc = (xs.take i).map f, rfl, fun i d acc hd ha e => ?_, fun acc _ e => ?_⟩
  · have hm := List.mem_of_getElem? hd
    refine mG (fun γ2 t => mT (fun c t => ?_) t) (hf d hm (fun y => acc ++ [y] = (xs.take (i + 1)).map f) ?_)
    · cases c with
      | true => exact t
      | false => exact t.elim
    · rw [e, List.take_add_one, hd, List.map_append] <;> rfl
  · rw [e, List.take_of_length_le (Nat.le_refl _)]
    exact hr
end DL

namespace ZN
open PySem PySem.Spec PyProof.Rows L2
/-! zip of many tuples and lists: zip(*rows), zip(a, b) -/
/-- the kind of a thing that is zipped: a tuple, or a list -/
def ItK (h : Heap) (it : Addr) (l : Bool × Addr) (k : Nat) : Prop := if l.1 = true then h.IsTupleIter it l.2 k else h.IsListIter it l.2 k
def SqK (h : Heap) (l : Bool × Addr) (xs : Array Value) : Prop := if l.1 = true then h.IsTuple l.2 xs else h.IsList l.2 xs
theorem ItK.T {h : Heap} {it : Addr} {l : Bool × Addr} {k : Nat} (e : l.1 = true) : ItK h it l k = h.IsTupleIter it l.2 k := if_pos e
theorem ItK.L {h : Heap} {it : Addr} {l : Bool × Addr} {k : Nat} (e : l.1 = false) : ItK h it l k = h.IsListIter it l.2 k := if_neg (by rw [e]; decide)
theorem SqK.T {h : Heap} {l : Bool × Addr} {xs : Array Value} (e : l.1 = true) : SqK h l xs = h.IsTuple l.2 xs := if_pos e
theorem SqK.L {h : Heap} {l : Bool × Addr} {xs : Array Value} (e : l.1 = false) : SqK h l xs = h.IsList l.2 xs := if_neg (by rw [e]; decide)
theorem ItK.extBut {h h' : Heap} {a c : Addr} {l : Bool × Addr} {k : Nat} (x : ItK h a l k) (hs : Heap.ExtBut c h h') (hab : a ≠ c) : ItK h' a l k := by
  cases e : l.1 with
  | true => rw [ItK.T e] at x ⊢; exact x.extBut hs hab
  | false => rw [ItK.L e] at x ⊢; exact x.extBut hs hab
theorem ItK.at {h h' : Heap} {a : Addr} {l : Bool × Addr} {k : Nat} (x : ItK h a l k) (q : ∀ o, h.get? a = some o → h'.get? a = some o) : ItK h' a l k := by
  cases e : l.1 with
  | true => rw [ItK.T e] at x ⊢; exact x.at q
  | false => rw [ItK.L e] at x ⊢; exact x.at q
theorem ItK.there {h : Heap} {a : Addr} {l : Bool × Addr} {k : Nat} (x : ItK h a l k) : ∃ o, h.get? a = some o ∧ ∀ v, o.data ≠ .cell v := by
  cases e : l.1 with
  | true =>
    rw [ItK.T e] at x
    obtain ⟨o, ho, _, hd⟩ := x
    exact ⟨o, ho, fun v q => by rw [hd] at q; cases q⟩
  | false =>
    rw [ItK.L e] at x
    obtain ⟨o, ho, _, hd⟩ := x
    exact ⟨o, ho, fun v q => by rw [hd] at q; cases q⟩
theorem SqK.at {h h' : Heap} {l : Bool × Addr} {xs : Array Value} (x : SqK h l xs) (q : ∀ o, h.get? l.2 = some o → h'.get? l.2 = some o) : SqK h' l xs := by
  cases e : l.1 with
  | true =>
    rw [SqK.T e] at x ⊢
    obtain ⟨o, ho, r⟩ := x
    exact ⟨o, q _ ho, r⟩
  | false =>
    rw [SqK.L e] at x ⊢
    obtain ⟨o, ho, r⟩ := x
    exact ⟨o, q _ ho, r⟩
theorem SqK.there {h : Heap} {l : Bool × Addr} {xs : Array Value} (x : SqK h l xs) : ∃ o, h.get? l.2 = some o := by
  cases e : l.1 with
  | true =>
    rw [SqK.T e] at x
    obtain ⟨o, ho, r⟩ := x
    exact ⟨o, ho⟩
  | false =>
    rw [SqK.L e] at x
    obtain ⟨o, ho, r⟩ := x
    exact ⟨o, ho⟩
section
variable {prog : Program} {w : World} {A : Around} {E : Value → Shared → Prop} {s : Shared}
theorem nextK_item {it : Addr} {l : Bool × Addr} {i : Nat} {items : Array Value} {x : Value} {Q : Value → Shared → Prop} (hi : ItK s.heap it l i) (hl : SqK s.heap l items) (hx : items[i]? = some x)
    (hQ : ∀ h', ItK h' it l (i + 1) → Heap.SameBut it s.heap h' → Q x { s with heap := h' }) : wpAny (model prog w) A (Builtin.SmallTypes.nextOf (.ref it)) Q E s := by
  cases e : l.1 with
  | true =>
    rw [ItK.T e] at hi
    rw [SqK.T e] at hl
    exact RZ.nextOf_tuple_item hi hl hx fun h' a c => hQ h' (by rw [ItK.T e]; exact a) c
  | false =>
    rw [ItK.L e] at hi
    rw [SqK.L e] at hl
    exact wpAny_nextOf_list_item hi hl hx fun h' a c => hQ h' (by rw [ItK.L e]; exact a) c
theorem nextK_end {it : Addr} {l : Bool × Addr} {i : Nat} {items : Array Value} {Q : Value → Shared → Prop} (hh : A.handled = none) (hi : ItK s.heap it l i) (hl : SqK s.heap l items) (hx : items[i]? = none)
    (hE : ∀ h' e, Heap.ExtBut it s.heap h' → (∃ o, h'.get? e = some o ∧ o.cls = .type "StopIteration") → E (.ref e) { s with heap := h' }) : wpAny (model prog w) A (Builtin.SmallTypes.nextOf (.ref it)) Q E s := by
  cases e : l.1 with
  | true =>
    rw [ItK.T e] at hi
    rw [SqK.T e] at hl
    exact RZ.nextOf_tuple_end hh hi hl hx hE
  | false =>
    rw [ItK.L e] at hi
    rw [SqK.L e] at hl
    exact wpAny_nextOf_list_end hh hi hl hx hE
theorem pyIterK {l : Bool × Addr} {items : Array Value} {Q : Value → Shared → Prop} (hl : SqK s.heap l items)
    (hQ : ∀ o : Obj, (∀ h' a, h'.get? a = some o → ItK h' a l 0) → o.isFreed = false → Q (.ref s.heap.objs.size) { s with heap := s.heap.push o }) : wpAny (model prog w) A (pyIter (.ref l.2)) Q E s := by
  cases e : l.1 with
  | true =>
    rw [SqK.T e] at hl
    exact wpAny_pyIter_tuple hl (hQ _ (fun h' a ha => by rw [ItK.T e]; exact ⟨_, ha, rfl, rfl⟩) rfl)
  | false =>
    rw [SqK.L e] at hl
    exact wpAny_pyIter_list hl (hQ _ (fun h' a ha => by rw [ItK.L e]; exact ⟨_, ha, rfl, rfl⟩) rfl)
end
def refsFrom (B n : Nat) : List Value := (List.range n).map fun i => Value.ref (B + i)
/-- while the i-th turn is under way: j of the iterators have turned -/
structure Mid (B n k j : Nat) (f0 : Value) (f1 : Bool) (ls : Nat → Bool × Addr) (ok : Array Value → Prop) (h0 h : Heap) : Prop where
  z : h.get? (B + n + 2) = some { cls := .type "zip", dict := none, data := .fields #[f0, .bool f1, .bool false, .ref (B + n), .ref (B + n + 1)], slots := #[] }
  ti : h.get? (B + n) = some { cls := .type "tuple", data := .seq (refsFrom B n).toArray }
  to : ∃ arr : Array Value, arr.size = n ∧ ok arr ∧ h.get? (B + n + 1) = some { cls := .type "tuple", data := .seq arr }
  its : ∀ i, i < n → ItK h (B + i) (ls i) (if i < j then k + 1 else k)
  sz : h.objs.size = h0.objs.size
  kp : ∀ c o, c < B ∨ B + n + 2 < c → h0.get? c = some o → h.get? c = some o
/-- the zip at B + n + 2 ahead of its k-th turn -/
structure ZipAt (B n k : Nat) (ls : Nat → Bool × Addr) (h : Heap) : Prop where
  z : ∃ (f0 : Value) (f1 : Bool), (f0 = .none ∨ ∃ a : Nat, f0 = rawInt a) ∧ h.get? (B + n + 2) = some { cls := .type "zip", dict := none, data := .fields #[f0, .bool f1, .bool false, .ref (B + n), .ref (B + n + 1)], slots := #[] }
  ti : h.get? (B + n) = some { cls := .type "tuple", data := .seq (refsFrom B n).toArray }
  to : ∃ arr : Array Value, arr.size = n ∧ h.get? (B + n + 1) = some { cls := .type "tuple", data := .seq arr }
  its : ∀ i, i < n → ItK h (B + i) (ls i) k
theorem drop_cons {α : Type} {l r : List α} {x : α} {j : Nat} (h : x :: r = l.drop j) : l[j]? = some x ∧ r = l.drop (j + 1) := by
  have h1 : (l.drop j)[0]? = some x := by rw [← h]; rfl
  rw [List.getElem?_drop] at h1
  refine ⟨by simpa using h1, ?_⟩
  have h2 : (l.drop j).drop 1 = r := by rw [← h]; rfl
  rw [List.drop_drop] at h2
  exact h2.symm
theorem refs_at {B n j : Nat} {v : Value} (h : (refsFrom B n)[j]? = some v) : j < n ∧ v = .ref (B + j) := by
  unfold refsFrom at h
  rw [List.getElem?_map] at h
  by_cases hj : j < n
  · rw [List.getElem?_range hj] at h
    exact ⟨hj, (Option.some.inj h).symm⟩
  · rw [List.getElem?_eq_none (by simp; omega)] at h
    cases h
theorem refs_len (B n : Nat) : (refsFrom B n).length = n := by unfold refsFrom; simp
theorem ne_add {a b : Nat} (h : (a : Int) ≠ b) : a ≠ b := fun e => h (by rw [e])
section
variable {prog : Program} {w : World} {A : Around} {E : Value → Shared → Prop} {s : Shared} {B n k j : Nat} {ls : Nat → Bool × Addr} {f0 : Value} {f1 : Bool} {ok : Array Value → Prop} {h0 h h' : Heap}
theorem Mid.turned (m : Mid B n k j f0 f1 ls ok h0 h) (hj : j < n) (hi : ItK h' (B + j) (ls j) (k + 1)) (sb : Heap.SameBut (B + j) h h') : Mid B n k (j + 1) f0 f1 ls ok h0 h' := by
  obtain ⟨arr, a1, a2, a3⟩ := m.to
  refine ⟨(sb.2 (B + n + 2) (ne_add (by omega))).trans m.z, (sb.2 (B + n) (ne_add (by omega))).trans m.ti, ⟨arr, a1, a2, (sb.2 (B + n + 1) (ne_add (by omega))).trans a3⟩, fun i hin => ?_, sb.1.trans m.sz, fun c o hc e => (sb.2 c (ne_add (by omega))).trans (m.kp c o hc e)⟩
  by_cases e : i = j
  · subst e
    rw [if_pos (Nat.lt_succ_self _)]
    exact hi
  · have := m.its i hin
    rw [show (if i < j + 1 then k + 1 else k) = if i < j then k + 1 else k from by by_cases q : i < j <;> simp [q] <;> omega]
    exact this.extBut sb.extBut (ne_add (by omega))
theorem Mid.mono {ok' : Array Value → Prop} (m : Mid B n k j f0 f1 ls ok h0 h) (q : ∀ a, ok a → ok' a) : Mid B n k j f0 f1 ls ok' h0 h := by
  obtain ⟨arr, a1, a2, a3⟩ := m.to
  exact ⟨m.z, m.ti, ⟨arr, a1, q _ a2, a3⟩, m.its, m.sz, m.kp⟩
/-- the j-th iterator gives its item -/
theorem Mid.next {rows : Nat → Array Value} {x : Nat → Value} {Q : Value → Shared → Prop} (m : Mid B n k j f0 f1 ls ok h0 s.heap) (hj : j < n) (hr : ∀ i, i < n → SqK s.heap (ls i) (rows i)) (hx : ∀ i, i < n → (rows i)[k]? = some (x i))
    (hQ : ∀ h', Mid B n k (j + 1) f0 f1 ls ok h0 h' → Q (x j) { s with heap := h' }) : wpAny (model prog w) A (Builtin.SmallTypes.nextOf (.ref (B + j))) Q E s := by
  have hi := m.its j hj
  rw [if_neg (Nat.lt_irrefl _)] at hi
  exact nextK_item hi (hr j hj) (hx j hj) fun h' h1 sb => hQ h' (m.turned hj h1 sb)
theorem tup_keep {rows : Nat → Array Value} (m : Mid B n k j f0 f1 ls ok h0 h) (hl : ∀ i, i < n → (ls i).2 < B) (hr : ∀ i, i < n → SqK h0 (ls i) (rows i)) : ∀ i, i < n → SqK h (ls i) (rows i) := fun i hi => (hr i hi).at fun o ho => m.kp _ _ (.inl (hl i hi)) ho
theorem Mid.wrote {f0' : Value} {f1' : Bool} (m : Mid B n k j f0 f1 ls ok h0 h) (hz : h'.get? (B + n + 2) = some { cls := .type "zip", dict := none, data := .fields #[f0', .bool f1', .bool false, .ref (B + n), .ref (B + n + 1)], slots := #[] }) (sb : Heap.SameBut (B + n + 2) h h') : Mid B n k j f0' f1' ls ok h0 h' := by
  obtain ⟨arr, a1, a2, a3⟩ := m.to
  exact ⟨hz, (sb.2 (B + n) (ne_add (by omega))).trans m.ti, ⟨arr, a1, a2, (sb.2 (B + n + 1) (ne_add (by omega))).trans a3⟩, fun i hi => (m.its i hi).extBut sb.extBut (ne_add (by omega)), sb.1.trans m.sz, fun c o hc e => (sb.2 c (ne_add (by omega))).trans (m.kp c o hc e)⟩
theorem Mid.put {x : Nat → Value} {arr : Array Value} (m : Mid B n k (j + 1) f0 f1 ls (fun _ => True) h0 h) (ha : arr.size = n) (hj : j < n) (hx : ∀ i, i < j → arr[i]? = some (x i)) (ht : h'.get? (B + n + 1) = some { cls := .type "tuple", data := .seq (arr.setIfInBounds j (x j)) }) (sb : Heap.SameBut (B + n + 1) h h') :
    Mid B n k (j + 1) f0 f1 ls (fun arr => ∀ i, i < j + 1 → arr[i]? = some (x i)) h0 h' := by
  refine ⟨(sb.2 (B + n + 2) (ne_add (by omega))).trans m.z, (sb.2 (B + n) (ne_add (by omega))).trans m.ti, ⟨arr.setIfInBounds j (x j), by simp [ha], fun i hi => ?_, ht⟩, fun i hi => (m.its i hi).extBut sb.extBut (ne_add (by omega)), sb.1.trans m.sz, fun c o hc e => (sb.2 c (ne_add (by omega))).trans (m.kp c o hc e)⟩
  by_cases e : i = j
  · subst e
    rw [Array.getElem?_setIfInBounds_self_of_lt (by omega)]
  · rw [Array.getElem?_setIfInBounds_ne (fun q => e q.symm)]
    exact hx i (by omega)
theorem zidx {l : List Value} {r : List (Value × Nat)} {x : Value × Nat} {j : Nat} (h : x :: r = (refsFrom B n).zipIdx.drop j) : j < n ∧ x = (.ref (B + j), j) ∧ r = (refsFrom B n).zipIdx.drop (j + 1) := by
  obtain ⟨ex, er⟩ := drop_cons h
  rw [List.getElem?_zipIdx] at ex
  cases hv : (refsFrom B n)[j]? with
  | none => rw [hv] at ex; cases ex
  | some u =>
    rw [hv] at ex
    obtain ⟨hj, rfl⟩ := refs_at hv
    refine ⟨hj, ?_, er⟩
    have := (Option.some.inj ex).symm
    simpa using this
theorem nil_drop {α : Type} {l : List α} {j : Nat} (h : [] = l.drop j) : l.length ≤ j := by
  have := congrArg List.length h
  rw [List.length_drop] at this
  simp at this
  omega
theorem alive {M : Model} {a : Addr} {Q : Option Obj → Shared → Prop} (h : Q (s.heap.get? a) s) : wpAny M A (loadIfAlive a) Q E s := fun _ _ _ => h
theorem arr_eq {arr : Array Value} {x : Nat → Value} (hs : arr.size = n) (h : ∀ i, i < n → arr[i]? = some (x i)) : arr.toList = (List.range n).map x := by
  apply List.ext_getElem?
  intro i
  rw [List.getElem?_map, Array.getElem?_toList]
  by_cases hi : i < n
  · rw [h i hi, List.getElem?_range hi] <;> rfl
  · rw [Array.getElem?_eq_none (by omega), List.getElem?_eq_none (by simp; omega)] <;> rfl

theorem next_item {rows : Nat → Array Value} {x : Nat → Value} {Q : Value → Shared → Prop} (hn : 0 < n) (hn2 : n ≤ 100000) (hz : ZipAt B n k ls s.heap) (hr : ∀ i, i < n → SqK s.heap (ls i) (rows i)) (hl : ∀ i, i < n → (ls i).2 < B) (hx : ∀ i, i < n → (rows i)[k]? = some (x i))
    (hQ : ∀ h', ZipAt B n (k + 1) ls h' → h'.get? s.heap.objs.size = some { cls := .type "tuple", data := .seq ((List.range n).map x).toArray } → h'.objs.size = s.heap.objs.size + 1 →
      (∀ c o, c < B ∨ B + n + 2 < c → s.heap.get? c = some o → h'.get? c = some o) → Q (.ref s.heap.objs.size) { s with heap := h' }) :
    wpAny (model prog w) A (Builtin.«zip.__next__» ⟨[.ref (B + n + 2)], []⟩) (fun fin s' => ∃ v, fin = .done (.ret v) ∧ Q v s') E s := by
  obtain ⟨⟨f0, f1, hf, hzz⟩, hti, ⟨arr, ha, hto⟩, hits⟩ := hz
  show wpAny _ _ (field (.ref (B + n + 2)) 2 >>= _) _ _ _
  refine wpAny_bind (wpAny_field hzz rfl (x := .bool false) rfl ?_)
  show wpAny _ _ (field (.ref (B + n + 2)) 3 >>= _) _ _ _
  refine wpAny_bind (wpAny_field hzz rfl (x := .ref (B + n)) rfl ?_)
  refine wpAny_bind (wpAny_seqItems hti rfl ?_)
  have he : (refsFrom B n).toArray.isEmpty = false := by
    rw [List.isEmpty_toArray]
    cases hh : refsFrom B n with
    | nil => have := refs_len B n; rw [hh] at this; simp at this; omega
    | cons _ _ => rfl
  simp only [he, Bool.false_eq_true, if_false]
  show wpAny _ _ (Builtin.SmallTypes.ownedTupleIsFree (.ref (B + n + 2)) >>= _) _ _ _
  have Z0 : Mid B n k 0 f0 f1 ls (fun _ => True) s.heap s.heap := ⟨hzz, hti, ⟨arr, ha, trivial, hto⟩, fun i hi => by rw [if_neg (Nat.not_lt_zero _)]; exact hits i hi, rfl, fun _ _ _ e => e⟩
  refine wpAny_bind (thn (Q := fun (b : Bool) s' => ∃ h1 f0' f1', s' = { s with heap := h1 } ∧ (b = true ∨ ∃ a : Nat, f0' = rawInt a) ∧ Mid B n k 0 f0' f1' ls (fun _ => True) s.heap h1) ?_ fun b s' hb => ?_)
  · unfold Builtin.SmallTypes.ownedTupleIsFree
    refine wpAny_bind (wpAny_field hzz rfl (x := f0) rfl ?_)
    rcases hf with rfl | ⟨a, rfl⟩
    · exact wpAny_pure ⟨s.heap, _, _, rfl, .inl rfl, Z0⟩
    · show wpAny _ _ (loadIfAlive ((a : Int).toNat) >>= _) _ _ _
      rw [Int.toNat_natCast]
      refine wpAny_bind (alive ?_)
      cases hg : s.heap.get? a with
      | none =>
        simp only [Option.isNone_none, if_true]
        exact wpAny_pure ⟨s.heap, _, _, rfl, .inl rfl, Z0⟩
      | some oa =>
        simp only [Option.isNone_some, Bool.false_eq_true, if_false]
        refine wpAny_bind (wpAny_field hzz rfl (x := .bool f1) rfl ?_)
        cases f1 with
        | true =>
          rw [if_neg (show ¬ ((Value.bool true != Value.bool true) = true) from Bool.false_ne_true)]
          exact wpAny_pure ⟨s.heap, _, _, rfl, .inr ⟨a, rfl⟩, Z0⟩
        | false =>
          rw [if_pos (show (Value.bool false != Value.bool true) = true from rfl)]
          refine wpAny_bind (wpAny_setField_rec hzz (by simp) fun h₃ he₃ hs₃ => ?_)
          exact wpAny_pure ⟨h₃, _, true, rfl, .inr ⟨a, rfl⟩, Z0.wrote he₃ hs₃⟩
  obtain ⟨h1, f0', f1', rfl, hb, m1⟩ := hb
  cases b with
  | true =>
    simp only [if_true]
    refine wpAny_bind (wpAny_rule ?_)
    refine wpAny_bind (wpAny_field m1.z rfl (x := .ref (B + n + 1)) rfl ?_)
    refine wpAny_bind (wpAny_setField_rec m1.z (by simp) fun h₃ he₃ hs₃ => ?_)
    have m3 : Mid B n k 0 .ellipsis f1' ls (fun _ => True) s.heap h₃ := m1.wrote he₃ hs₃
    refine wpAny_bind (wpAny_forIn_list _ (fun r (b : Option Fin × Unit) s' => b = (none, ()) ∧ ∃ j h2, r = (refsFrom B n).zipIdx.drop j ∧ s' = { s with heap := h2 } ∧ Mid B n k j .ellipsis f1' ls (fun arr => ∀ i, i < j → arr[i]? = some (x i)) s.heap h2) _ ?_ ?_ _ _ ?_)
    · rintro y rest b s1 ⟨rfl, j, h2, er, rfl, m⟩
      obtain ⟨hj, rfl, er2⟩ := zidx (l := []) er
      refine wpAny_bind (wpAny_onRaise ?_)
      show wpAny _ _ (Builtin.SmallTypes.nextOf (.ref (B + j)) >>= _) _ _ _
      refine wpAny_bind (Mid.next (s := { s with heap := h2 }) m hj (tup_keep m hl hr) hx fun h3 m3 => wpAny_pure ?_)
      obtain ⟨arr3, a1, a2, a3⟩ := m3.to
      refine wpAny_bind (wpAny_seqItems (s := { s with heap := h3 }) a3 rfl ?_)
      refine wpAny_bind (wpAny_updateSeq (s := { s with heap := h3 }) a3 rfl ?_)
      refine wpAny_bind (wpAny_letGo (wpAny_pure ⟨rfl, j + 1, _, er2, rfl, Mid.put (m3.mono fun _ _ => trivial) a1 hj a2 ?_ (Heap.SameBut.update ..)⟩))
      rw [Heap.get?_update_self _ a3 rfl]
      simp [Obj.mapSeq]
    · rintro b s1 ⟨rfl, j, h2, er, rfl, m⟩
      have hj := nil_drop er
      rw [List.length_zipIdx, refs_len] at hj
      obtain ⟨arr3, a1, a2, a3⟩ := m.to
      have ae := arr_eq a1 (fun i hi => a2 i (by omega))
      refine wpAny_bind (wpAny_seqItems (s := { s with heap := h2 }) a3 rfl ?_)
      refine wpAny_bind (wpAny_newTuple ?_ (by rw [Array.length_toList]; show arr3.size ≤ 2 ^ 24; omega))
      rw [ae, m.sz]
      have hzs : B + n + 2 < h2.objs.size := Heap.lt_size m.z
      have g1 := Heap.get?_push_of_some (o := { cls := .type "tuple", data := .seq ((List.range n).map x).toArray }) m.z
      have g2 : (h2.push { cls := .type "tuple", data := .seq ((List.range n).map x).toArray }).get? h2.objs.size = some { cls := .type "tuple", data := .seq ((List.range n).map x).toArray } := Heap.get?_push_size _ rfl
      generalize hP : h2.push { cls := .type "tuple", data := .seq ((List.range n).map x).toArray } = hp at g1 g2 ⊢
      have hps : hp.objs.size = s.heap.objs.size + 1 := by rw [← hP, Heap.size_push, m.sz]
      have gk : ∀ c o, h2.get? c = some o → hp.get? c = some o := fun c o e => by rw [← hP]; exact Heap.get?_push_of_some _ e
      rw [m.sz] at g2 hzs
      show wpAny _ _ (Builtin.SmallTypes.ownedTupleHandOut (.ref (B + n + 2)) (.ref s.heap.objs.size) >>= _) _ _ _
      refine wpAny_bind ?_
      unfold Builtin.SmallTypes.ownedTupleHandOut
      refine wpAny_bind (wpAny_setField_rec (s := { s with heap := hp }) g1 (by simp) fun h₇ hz₇ hs₇ => ?_)
      replace hz₇ : h₇.get? (B + n + 2) = some { cls := .type "zip", dict := none, data := .fields #[rawInt s.heap.objs.size, .bool f1', .bool false, .ref (B + n), .ref (B + n + 1)], slots := #[] } := hz₇
      refine wpAny_setField_rec (s := { s with heap := h₇ }) hz₇ (by simp) fun h₈ hz₈ hs₈ => ?_
      replace hz₈ : h₈.get? (B + n + 2) = some { cls := .type "zip", dict := none, data := .fields #[rawInt s.heap.objs.size, .bool false, .bool false, .ref (B + n), .ref (B + n + 1)], slots := #[] } := hz₈
      have up : ∀ c o, c ≠ B + n + 2 → h2.get? c = some o → h₈.get? c = some o := fun c o c1 e => hs₈.extBut _ _ c1 (hs₇.extBut _ _ c1 (gk c o e))
      refine wpAny_pure ⟨_, rfl, hQ h₈ ⟨⟨_, _, .inr ⟨_, rfl⟩, hz₈⟩, up (B + n) _ (ne_add (by omega)) m.ti, ⟨arr3, a1, up (B + n + 1) _ (ne_add (by omega)) a3⟩, fun i hi => ?_⟩ ?_ ?_ fun c o hc e => up c o (ne_add (by omega)) (m.kp c o hc e)⟩
      · have := m.its i hi
        rw [if_pos (by omega)] at this
        exact this.at fun o e => up (B + i) o (ne_add (by omega)) e
      · exact hs₈.extBut _ _ (Nat.ne_of_gt hzs) (hs₇.extBut _ _ (Nat.ne_of_gt hzs) g2)
      · rw [hs₈.1, hs₇.1]; exact hps
    · exact ⟨rfl, 0, h₃, rfl, rfl, m3.mono fun a _ i hi => absurd hi (Nat.not_lt_zero _)⟩
  | false =>
    simp only [Bool.false_eq_true, if_false]
    rw [List.forIn_toArray]
    refine wpAny_bind (wpAny_forIn_list _ (fun r (b : Option Fin × Array Value) s' => ∃ j h2, r = (refsFrom B n).drop j ∧ j ≤ n ∧ b = (none, ((List.range j).map x).toArray) ∧ s' = { s with heap := h2 } ∧ Mid B n k j f0' f1' ls (fun arr => True) s.heap h2) _ ?_ ?_ _ _ ?_)
    · rintro y rest b s1 ⟨j, h2, er, _, rfl, rfl, m⟩
      obtain ⟨ey, er2⟩ := drop_cons er
      obtain ⟨hj, rfl⟩ := refs_at ey
      refine wpAny_bind (wpAny_holding ?_)
      show wpAny _ _ (Builtin.SmallTypes.nextOf (.ref (B + j)) >>= _) _ _ _
      refine wpAny_bind (Mid.next (s := { s with heap := h2 }) m hj (tup_keep m hl hr) hx fun h3 m3 => wpAny_pure ?_)
      refine wpAny_pure ⟨j + 1, h3, er2, hj, ?_, rfl, m3⟩
      show (none, ((List.range j).map x).toArray.push (x j)) = _
      rw [List.push_toArray, List.range_succ, List.map_append] <;> rfl
    · rintro b s1 ⟨j, h2, er, hjn, rfl, rfl, m⟩
      have hj := nil_drop er
      rw [refs_len] at hj
      obtain rfl : j = n := Nat.le_antisymm hjn hj
      obtain ⟨arr3, a1, a2, a3⟩ := m.to
      refine wpAny_bind (wpAny_newTuple ?_ (by simp; show j ≤ 2 ^ 24; omega))
      have hzs : B + j + 2 < h2.objs.size := Heap.lt_size m.z
      refine wpAny_pure ⟨_, rfl, ?_⟩
      show Q (.ref h2.objs.size) _
      have up : ∀ c o, h2.get? c = some o → (h2.push { cls := .type "tuple", data := .seq ((List.range j).map x).toArray }).get? c = some o := fun c o e => Heap.get?_push_of_some _ e
      have g2 : (h2.push { cls := .type "tuple", data := .seq ((List.range j).map x).toArray }).get? h2.objs.size = some { cls := .type "tuple", data := .seq ((List.range j).map x).toArray } := Heap.get?_push_size _ rfl
      rw [m.sz] at g2 ⊢
      refine hQ _ ⟨⟨_, _, .inr ?_, up _ _ m.z⟩, up _ _ m.ti, ⟨arr3, a1, up _ _ a3⟩, fun i hi => ?_⟩ g2 ?_ fun c o hc e => up _ _ (m.kp c o hc e)
      · rcases hb with hb | hb
        · cases hb
        · exact hb
      · have := m.its i hi
        rw [if_pos hi] at this
        exact this.at fun o e => up _ o e
      · rw [Heap.size_push, m.sz]
    · exact ⟨0, h1, rfl, Nat.zero_le _, rfl, rfl, m1⟩
theorem next_end {rows : Nat → Array Value} {Q : Fin → Shared → Prop} (hh : A.handled = none) (hn : 0 < n) (hz : ZipAt B n k ls s.heap) (hr : ∀ i, i < n → SqK s.heap (ls i) (rows i)) (hl : ∀ i, i < n → (ls i).2 < B) (hx : (rows 0)[k]? = none)
    (hE : ∀ h' e, (∀ c o, c < B ∨ B + n + 2 < c → s.heap.get? c = some o → h'.get? c = some o) → (∃ o, h'.get? e = some o ∧ o.cls = .type "StopIteration") → E (.ref e) { s with heap := h' }) :
    wpAny (model prog w) A (Builtin.«zip.__next__» ⟨[.ref (B + n + 2)], []⟩) Q E s := by
  obtain ⟨⟨f0, f1, hf, hzz⟩, hti, ⟨arr, ha, hto⟩, hits⟩ := hz
  show wpAny _ _ (field (.ref (B + n + 2)) 2 >>= _) _ _ _
  refine wpAny_bind (wpAny_field hzz rfl (x := .bool false) rfl ?_)
  show wpAny _ _ (field (.ref (B + n + 2)) 3 >>= _) _ _ _
  refine wpAny_bind (wpAny_field hzz rfl (x := .ref (B + n)) rfl ?_)
  refine wpAny_bind (wpAny_seqItems hti rfl ?_)
  have he : (refsFrom B n).toArray.isEmpty = false := by
    rw [List.isEmpty_toArray]
    cases hh : refsFrom B n with
    | nil => have := refs_len B n; rw [hh] at this; simp at this; omega
    | cons _ _ => rfl
  simp only [he, Bool.false_eq_true, if_false]
  show wpAny _ _ (Builtin.SmallTypes.ownedTupleIsFree (.ref (B + n + 2)) >>= _) _ _ _
  have Z0 : Mid B n k 0 f0 f1 ls (fun _ => True) s.heap s.heap := ⟨hzz, hti, ⟨arr, ha, trivial, hto⟩, fun i hi => by rw [if_neg (Nat.not_lt_zero _)]; exact hits i hi, rfl, fun _ _ _ e => e⟩
  refine wpAny_bind (thn (Q := fun (b : Bool) s' => ∃ h1 f0' f1', s' = { s with heap := h1 } ∧ (b = true ∨ ∃ a : Nat, f0' = rawInt a) ∧ Mid B n k 0 f0' f1' ls (fun _ => True) s.heap h1) ?_ fun b s' hb => ?_)
  · unfold Builtin.SmallTypes.ownedTupleIsFree
    refine wpAny_bind (wpAny_field hzz rfl (x := f0) rfl ?_)
    rcases hf with rfl | ⟨a, rfl⟩
    · exact wpAny_pure ⟨s.heap, _, _, rfl, .inl rfl, Z0⟩
    · show wpAny _ _ (loadIfAlive ((a : Int).toNat) >>= _) _ _ _
      rw [Int.toNat_natCast]
      refine wpAny_bind (alive ?_)
      cases hg : s.heap.get? a with
      | none =>
        simp only [Option.isNone_none, if_true]
        exact wpAny_pure ⟨s.heap, _, _, rfl, .inl rfl, Z0⟩
      | some oa =>
        simp only [Option.isNone_some, Bool.false_eq_true, if_false]
        refine wpAny_bind (wpAny_field hzz rfl (x := .bool f1) rfl ?_)
        cases f1 with
        | true =>
          rw [if_neg (show ¬ ((Value.bool true != Value.bool true) = true) from Bool.false_ne_true)]
          exact wpAny_pure ⟨s.heap, _, _, rfl, .inr ⟨a, rfl⟩, Z0⟩
        | false =>
          rw [if_pos (show (Value.bool false != Value.bool true) = true from rfl)]
          refine wpAny_bind (wpAny_setField_rec hzz (by simp) fun h₃ he₃ hs₃ => ?_)
          exact wpAny_pure ⟨h₃, _, true, rfl, .inr ⟨a, rfl⟩, Z0.wrote he₃ hs₃⟩
  obtain ⟨h1, f0', f1', rfl, hb, m1⟩ := hb
  have i0 := m1.its 0 hn
  rw [if_neg (Nat.lt_irrefl _)] at i0
  have t0 := tup_keep m1 hl hr 0 hn
  obtain ⟨tl, hc⟩ : ∃ tl, refsFrom B n = .ref (B + 0) :: tl := by
    obtain ⟨m, rfl⟩ : ∃ m, n = m + 1 := ⟨n - 1, by omega⟩
    unfold refsFrom
    rw [List.range_succ_eq_map]
    exact ⟨_, rfl⟩
  cases b with
  | true =>
    simp only [if_true]
    refine wpAny_bind (wpAny_rule ?_)
    refine wpAny_bind (wpAny_field m1.z rfl (x := .ref (B + n + 1)) rfl ?_)
    refine wpAny_bind (wpAny_setField_rec m1.z (by simp) fun h₃ he₃ hs₃ => ?_)
    have m3 : Mid B n k 0 .ellipsis f1' ls (fun _ => True) s.heap h₃ := m1.wrote he₃ hs₃
    have i3 := m3.its 0 hn
    rw [if_neg (Nat.lt_irrefl _)] at i3
    have t3 := tup_keep m3 hl hr 0 hn
    rw [hc, List.zipIdx_cons, List.forIn_cons]
    refine wpAny_bind (wpAny_bind (wpAny_bind (wpAny_onRaise ?_)))
    show wpAny _ _ (Builtin.SmallTypes.nextOf (.ref (B + 0)) >>= _) _ _ _
    refine wpAny_bind (nextK_end (s := { s with heap := h₃ }) hh i3 t3 hx fun h₂ e hs₂ he => ?_)
    obtain ⟨oe, hoe, hce⟩ := he
    have hz₂ := hs₂ _ _ (ne_add (by omega)) m3.z
    have hez : e ≠ B + n + 2 := fun x => by subst x; rw [hz₂] at hoe; cases hoe; simp at hce
    refine wpAny_setField_rec (s := { s with heap := h₂ }) hz₂ (by simp) fun h₅ _ hs₅ => hE h₅ e (fun c o hc x => hs₅.extBut _ _ (ne_add (by omega)) (hs₂ _ _ (ne_add (by omega)) (m3.kp c o hc x))) ⟨oe, hs₅.extBut _ _ hez hoe, hce⟩
  | false =>
    simp only [Bool.false_eq_true, if_false]
    rw [List.forIn_toArray, hc, List.forIn_cons]
    refine wpAny_bind (wpAny_bind (wpAny_bind (wpAny_holding ?_)))
    show wpAny _ _ (Builtin.SmallTypes.nextOf (.ref (B + 0)) >>= _) _ _ _
    refine wpAny_bind (nextK_end (s := { s with heap := h1 }) hh i0 t0 hx fun h₂ e hs₂ he => hE h₂ e (fun c o hc x => hs₂ _ _ (ne_add (by omega)) (m1.kp c o hc x)) he)
theorem pyNext_item {rows : Nat → Array Value} {x : Nat → Value} {Q : Option Value → Shared → Prop} (hn : 0 < n) (hn2 : n ≤ 100000) (hz : ZipAt B n k ls s.heap) (hr : ∀ i, i < n → SqK s.heap (ls i) (rows i)) (hl : ∀ i, i < n → (ls i).2 < B) (hx : ∀ i, i < n → (rows i)[k]? = some (x i))
    (hQ : ∀ h', ZipAt B n (k + 1) ls h' → h'.get? s.heap.objs.size = some { cls := .type "tuple", data := .seq ((List.range n).map x).toArray } → h'.objs.size = s.heap.objs.size + 1 →
      (∀ c o, c < B ∨ B + n + 2 < c → s.heap.get? c = some o → h'.get? c = some o) → Q (some (.ref s.heap.objs.size)) { s with heap := h' }) :
    wpAny (model prog w) A (pyNext (.ref (B + n + 2))) Q E s := by
  obtain ⟨f0, f1, _, hzz⟩ := hz.z
  have hT : s.TypeIs (.ref (B + n + 2)) "zip" := ⟨_, hzz, rfl⟩
  unfold pyNext
  exact wpAny_bind (wpAny_attempt (wpAny_callSpecial?_slot (name := Str.ofString "__next__") hT F.slot_zip_next
    (wpAny_call_entry F.slot_zip_next hT F.entry_zip_next
      (next_item hn hn2 hz hr hl hx fun h' a1 a2 a3 a4 => wpAny_pure (hQ h' a1 a2 a3 a4)) (F.args_zip_next_1 _))))
theorem pyNext_end {rows : Nat → Array Value} {Q : Option Value → Shared → Prop} (hh : A.handled = none) (hn : 0 < n) (hz : ZipAt B n k ls s.heap) (hr : ∀ i, i < n → SqK s.heap (ls i) (rows i)) (hl : ∀ i, i < n → (ls i).2 < B) (hx : (rows 0)[k]? = none)
    (hQ : ∀ h', (∀ c o, c < B ∨ B + n + 2 < c → s.heap.get? c = some o → h'.get? c = some o) → Q none { s with heap := h' }) : wpAny (model prog w) A (pyNext (.ref (B + n + 2))) Q E s := by
  obtain ⟨f0, f1, _, hzz⟩ := hz.z
  have hT : s.TypeIs (.ref (B + n + 2)) "zip" := ⟨_, hzz, rfl⟩
  unfold pyNext
  refine wpAny_bind (wpAny_attempt (wpAny_callSpecial?_slot (name := Str.ofString "__next__") hT F.slot_zip_next
    (wpAny_call_entry F.slot_zip_next hT F.entry_zip_next (next_end hh hn hz hr hl hx fun h' e hk he => ?_) (F.args_zip_next_1 _))))
  obtain ⟨o, ho, hc⟩ := he
  refine wpAny_bind (wpAny_isInstance (T := "StopIteration") (b := true) ⟨o, ho, hc⟩ isSubtype_stop ?_)
  exact wpAny_pure (hQ _ hk)
theorem self_zip {Q : Value → Shared → Prop} (hz : ZipAt B n k ls s.heap) (h : Q (.ref (B + n + 2)) s) : wpAny (model prog w) A (pyIter (.ref (B + n + 2))) Q E s := by
  obtain ⟨f0, f1, _, hzz⟩ := hz.z
  have hT : s.TypeIs (.ref (B + n + 2)) "zip" := ⟨_, hzz, rfl⟩
  refine wpAny_pyIter_slot hT F.slot_zip_iter (wpAny_call_entry F.slot_zip_iter hT F.entry_zip_iter ?_ (F.args_zip_iter_1 _))
  show wpAny _ _ (ret (.ref (B + n + 2))) _ _ s
  exact wpAny_pure ⟨_, rfl, "zip", _, hT, F.slot_zip_next.lookup, h⟩
theorem typeCall_zip (v : Value) (vs : List Value) : checkTypeCall "zip" ⟨v :: vs, []⟩ = pure () := by kernel_rfl
theorem newCall_zip (v : Value) (vs : List Value) : checkBuiltinCall "zip.__new__" ⟨.type "zip" :: v :: vs, []⟩ = pure () := by kernel_rfl
theorem args_init (c v : Value) (vs : List Value) : argsOk "object.__init__" ⟨c :: v :: vs, []⟩ := by
  unfold argsOk; rw [signature?_of (id := "object.__init__") (n := ['_', '_', 't', 'i', 'n', 'i', '_', '_']) (o := ['t', 'c', 'e', 'j', 'b', 'o']) (by kernel_rfl) F.owner_object]; kernel_rfl
end
section
variable {prog : Program} {w : World} {A : Around} {E : Value → Shared → Prop} {s : Shared} {n : Nat} {ls : Nat → Bool × Addr} {rows : Nat → Array Value}
def addrs (ls : Nat → Bool × Addr) (n : Nat) : List Value := (List.range n).map fun i => Value.ref (ls i).2
theorem addrs_at {j : Nat} {v : Value} (h : (addrs ls n)[j]? = some v) : j < n ∧ v = .ref (ls j).2 := by
  unfold addrs at h
  rw [List.getElem?_map] at h
  by_cases hj : j < n
  · rw [List.getElem?_range hj] at h
    exact ⟨hj, (Option.some.inj h).symm⟩
  · rw [List.getElem?_eq_none (by simp; omega)] at h
    cases h
theorem iterAll_n {Q : List Value → Shared → Prop} (hr : ∀ i, i < n → SqK s.heap (ls i) (rows i))
    (hQ : ∀ h', h'.objs.size = s.heap.objs.size + n → (∀ i, i < n → ItK h' (s.heap.objs.size + i) (ls i) 0) → (∀ c o, s.heap.get? c = some o → h'.get? c = some o) → Q (refsFrom s.heap.objs.size n) { s with heap := h' }) :
    wpAny (model prog w) A (Builtin.SmallTypes.iterAll (addrs ls n)) Q E s := by
  unfold Builtin.SmallTypes.iterAll
  refine wpAny_bind (wpAny_forIn_list _ (fun r (b : Array Value) s' => ∃ j h2, r = (addrs ls n).drop j ∧ j ≤ n ∧ b = (refsFrom s.heap.objs.size j).toArray ∧ s' = { s with heap := h2 } ∧ h2.objs.size = s.heap.objs.size + j ∧ (∀ i, i < j → ItK h2 (s.heap.objs.size + i) (ls i) 0) ∧ (∀ c o, s.heap.get? c = some o → h2.get? c = some o)) _ ?_ ?_ _ _ ?_)
  · rintro y rest b s1 ⟨j, h2, er, _, rfl, rfl, h3, h4, h5⟩
    obtain ⟨ey, er2⟩ := drop_cons er
    obtain ⟨hj, rfl⟩ := addrs_at ey
    refine wpAny_bind (wpAny_holding (pyIterK (s := { s with heap := h2 }) (l := ls j) (items := rows j) ((hr j hj).at fun o ho => h5 _ _ ho) fun oi hoi hfr => ?_))
    refine wpAny_pure ⟨j + 1, _, er2, hj, ?_, rfl, ?_, fun i hi => ?_, fun c o e => Heap.get?_push_of_some _ (h5 c o e)⟩
    · show (refsFrom s.heap.objs.size j).toArray.push (.ref h2.objs.size) = _
      rw [List.push_toArray, h3]
      unfold refsFrom
      rw [List.range_succ, List.map_append] <;> rfl
    · rw [Heap.size_push, h3] <;> rfl
    · by_cases e : i = j
      · subst e
        rw [← h3]
        exact hoi _ _ (Heap.get?_push_size _ hfr)
      · exact (h4 i (by omega)).at fun o e => Heap.get?_push_of_some _ e
  · rintro b s1 ⟨j, h2, er, hjn, rfl, rfl, h3, h4, h5⟩
    have hj := nil_drop er
    unfold addrs at hj
    rw [List.length_map, List.length_range] at hj
    obtain rfl : j = n := Nat.le_antisymm hjn hj
    exact wpAny_pure (hQ h2 h3 h4 h5)
  · exact ⟨0, s.heap, rfl, Nat.zero_le _, rfl, rfl, rfl, fun i hi => absurd hi (Nat.not_lt_zero _), fun _ _ e => e⟩
theorem newClass_zip (vs : List Value) : Builtin.SmallTypes.newClass "zip" ⟨.type "zip" :: vs, []⟩ = pure (.type "zip", vs) := by
  unfold Builtin.SmallTypes.newClass
  show (isType (.type "zip") >>= _) = _
  rw [show isType (.type "zip") = pure true from by kernel_rfl]
  show (isSubtype (.type "zip") (.type "zip") >>= _) = _
  rw [sub_zip]
  rfl
theorem meets_new (n : Nat) (hn2 : n ≤ 100000) (ls : Nat → Bool × Addr) (rows : Nat → Array Value) :
    Meets (Builtin.«zip.__new__» ⟨.type "zip" :: addrs ls n, []⟩) (fun _ R s => (∀ i, i < n → SqK s.heap (ls i) (rows i)) ∧
      ∀ h', ZipAt s.heap.objs.size n 0 ls h' → (∀ c o, s.heap.get? c = some o → h'.get? c = some o) → R (.ok (.ret (.ref (s.heap.objs.size + n + 2)))) { s with heap := h' }) :=
  .of_wp fun prog w A R s h => by
    obtain ⟨hr, h⟩ := h
    have hsub := sub_zip
    unfold Builtin.«zip.__new__»
    refine wpAny_bind (wpAny_of_eq (newClass_zip _) ?_)
    show wpAny _ _ (Builtin.SmallTypes.iterAll (addrs ls n) >>= _) _ _ _
    refine wpAny_bind (iterAll_n hr fun h1 z1 i1 k1 => ?_)
    refine wpAny_bind (wpAny_newTuple ?_ (by rw [refs_len]; show n ≤ 2 ^ 24; omega))
    refine wpAny_bind (wpAny_newTuple ?_ (by rw [List.length_map, refs_len]; show n ≤ 2 ^ 24; omega))
    have g1 : (h1.push { cls := .type "tuple", data := .seq (refsFrom s.heap.objs.size n).toArray }).get? h1.objs.size = some { cls := .type "tuple", data := .seq (refsFrom s.heap.objs.size n).toArray } := Heap.get?_push_size _ rfl
    have u1 : ∀ c o, h1.get? c = some o → (h1.push { cls := .type "tuple", data := .seq (refsFrom s.heap.objs.size n).toArray }).get? c = some o := fun c o e => Heap.get?_push_of_some _ e
    have s1 : (h1.push { cls := .type "tuple", data := .seq (refsFrom s.heap.objs.size n).toArray }).objs.size = s.heap.objs.size + n + 1 := by rw [Heap.size_push, z1]
    rw [z1] at g1 ⊢
    generalize h1.push { cls := .type "tuple", data := .seq (refsFrom s.heap.objs.size n).toArray } = h2 at g1 u1 s1 ⊢
    have g2 : (h2.push { cls := .type "tuple", data := .seq ((refsFrom s.heap.objs.size n).map fun _ => Value.none).toArray }).get? h2.objs.size = some { cls := .type "tuple", data := .seq ((refsFrom s.heap.objs.size n).map fun _ => Value.none).toArray } := Heap.get?_push_size _ rfl
    have u2 : ∀ c o, h2.get? c = some o → (h2.push { cls := .type "tuple", data := .seq ((refsFrom s.heap.objs.size n).map fun _ => Value.none).toArray }).get? c = some o := fun c o e => Heap.get?_push_of_some _ e
    have s2 : (h2.push { cls := .type "tuple", data := .seq ((refsFrom s.heap.objs.size n).map fun _ => Value.none).toArray }).objs.size = s.heap.objs.size + n + 2 := by rw [Heap.size_push, s1]
    rw [s1] at g2 ⊢
    generalize h2.push { cls := .type "tuple", data := .seq ((refsFrom s.heap.objs.size n).map fun _ => Value.none).toArray } = h3 at g2 u2 s2 ⊢
    refine wpAny_bind ?_
    show wpAny _ _ (newObj (.type "zip") (.fields #[.none, .bool false, .bool false, .ref (s.heap.objs.size + n), .ref (s.heap.objs.size + n + 1)])) _ _ _
    refine wpAny_newObj_type ?_
    have g3 : (h3.push { cls := .type "zip", data := .fields #[.none, .bool false, .bool false, .ref (s.heap.objs.size + n), .ref (s.heap.objs.size + n + 1)] }).get? h3.objs.size = some { cls := .type "zip", data := .fields #[.none, .bool false, .bool false, .ref (s.heap.objs.size + n), .ref (s.heap.objs.size + n + 1)] } := Heap.get?_push_size _ rfl
    have u3 : ∀ c o, h3.get? c = some o → (h3.push { cls := .type "zip", data := .fields #[.none, .bool false, .bool false, .ref (s.heap.objs.size + n), .ref (s.heap.objs.size + n + 1)] }).get? c = some o := fun c o e => Heap.get?_push_of_some _ e
    rw [s2] at g3
    refine wpAny_pure ⟨_, rfl, ?_⟩
    show R (.ok (.ret (.ref h3.objs.size))) _
    rw [s2]
    refine h _ ⟨⟨_, _, .inl rfl, g3⟩, u3 _ _ (u2 _ _ g1), ⟨_, ?_, u3 _ _ g2⟩, fun i hi => (i1 i hi).at fun o e => u3 _ _ (u2 _ _ (u1 _ _ e))⟩ fun c o e => u3 _ _ (u2 _ _ (u1 _ _ (k1 c o e)))
    simp [refs_len]
theorem call_zipN {Q : Value → Shared → Prop} (hn : 0 < n) (hn2 : n ≤ 100000) (hr : ∀ i, i < n → SqK s.heap (ls i) (rows i))
    (h : ∀ h', ZipAt s.heap.objs.size n 0 ls h' → (∀ c o, s.heap.get? c = some o → h'.get? c = some o) → Q (.ref (s.heap.objs.size + n + 2)) { s with heap := h' }) : wpAny (model prog w) A (call (.type "zip") (addrs ls n)) Q E s := by
  obtain ⟨v, vs, hv⟩ : ∃ v vs, addrs ls n = v :: vs := by
    obtain ⟨m, rfl⟩ : ∃ m, n = m + 1 := ⟨n - 1, by omega⟩
    unfold addrs
    rw [List.range_succ_eq_map]
    exact ⟨_, _, rfl⟩
  have M := meets_new n hn2 ls rows
  rw [hv] at M ⊢
  refine callType_new F.called_zip (by decide) (typeCall_zip _ _) (newCall_zip _ _) (fun obj => args_init _ _ _) F.entry_zip_new M ⟨hr, fun h' z k => ?_⟩
  obtain ⟨f0, f1, _, hzz⟩ := z.z
  exact ⟨⟨_, hzz, rfl⟩, h h' z k⟩
end
/-! ### as an iterable -/
/-- a tuple, or a list, that may be read -/
def SqB (K : PySem.W.Frag) (H : Hp) (a : Bool × Addr) (xs : List V) : Prop := if a.1 = true then SqT K H a.2 xs else SqL K H a.2 xs
theorem SqB.vals {X : Cx} {pins : List (Addr × Obj)} {σ : L2.St} {H : Hp} {s : Shared} {a : Bool × Addr} {xs : List V} (I : Inv X pins σ H s) (h : SqB X.K H a xs) : ∃ its : List Value, Vals xs its ∧ SqK s.heap a its.toArray := by
  unfold SqB at h
  by_cases e : a.1 = true
  · rw [if_pos e] at h
    obtain ⟨its, rv, p, _⟩ := I.tuple h
    exact ⟨its, rv, by rw [SqK.T e]; exact p⟩
  · rw [if_neg e] at h
    obtain ⟨its, rv, p, _⟩ := I.list h
    exact ⟨its, rv, by rw [SqK.L (by simpa using e)]; exact p.isList⟩
theorem SqB.T {K : PySem.W.Frag} {H : Hp} {a : Addr} {xs : List V} (h : SqT K H a xs) : SqB K H (true, a) xs := by
  unfold SqB
  exact h
/-- zip of the tuples and lists at as, which are rows, m items each -/
def ItN (K : PySem.W.Frag) (as : List (Bool × Addr)) (rows : List (List V)) (m : Nat) : It :=
  ⟨fun i H => i < m ∧ ∀ (j : Nat) (a : Bool × Addr) (xs : List V), as[j]? = some a → rows[j]? = some xs → SqB K H a xs,
    fun i H v H' => ∃ T, v = .ref T ∧ H T = none ∧ H' = upd H T (.tup (rows.map fun xs => xs.getD i .non)),
    fun i H => m ≤ i ∧ ∀ (j : Nat) (a : Bool × Addr) (xs : List V), as[j]? = some a → rows[j]? = some xs → SqB K H a xs⟩
theorem vals_map {α : Type} : ∀ {l : List α} {f : α → V} {g : Nat → Value}, (∀ j a, l[j]? = some a → RelV (f a) (g j)) → Vals (l.map f) ((List.range l.length).map g)
  | [], _, _, _ => .nil
  | a :: l, f, g, h => by
    rw [List.map_cons, List.length_cons, List.range_succ_eq_map, List.map_cons, List.map_map]
    exact .cons (h 0 a rfl) (vals_map fun j b e => h (j + 1) b (by simpa using e))
theorem ZipAt.keep {B n k : Nat} {ls : Nat → Bool × Addr} {h h' : Heap} (z : ZipAt B n k ls h) (kp : ∀ b : Nat, B ≤ b → b < B + n + 3 → ∀ o, h.get? b = some o → h'.get? b = some o) : ZipAt B n k ls h' := by
  obtain ⟨⟨f0, f1, hf, hz⟩, ti, ⟨arr, ha, to⟩, its⟩ := z
  exact ⟨⟨f0, f1, hf, kp _ (by omega) (by omega) _ hz⟩, kp _ (by omega) (by omega) _ ti, ⟨arr, ha, kp _ (by omega) (by omega) _ to⟩, fun i hi => (its i hi).at fun o e => kp _ (by omega) (by omega) _ e⟩
def fps (B n : Nat) : List Nat := (List.range (n + 3)).map fun i => B + i
theorem mem_fps {B n : Nat} {b : Nat} : b ∈ fps B n ↔ B ≤ b ∧ b < B + n + 3 := by
  unfold fps
  rw [List.mem_map]
  constructor
  · rintro ⟨i, hi, rfl⟩
    have := List.mem_range.mp hi
    exact ⟨by omega, by omega⟩
  · rintro ⟨h1, h2⟩
    exact ⟨b - B, List.mem_range.mpr (by omega), by omega⟩
theorem fps_cases {B n c : Nat} (h : c ∈ fps B n) : c = B + n + 2 ∨ c = B + n ∨ c = B + n + 1 ∨ ∃ i, i < n ∧ c = B + i := by
  have := mem_fps.mp h
  by_cases e1 : c = B + n + 2
  · exact .inl e1
  by_cases e2 : c = B + n
  · exact .inr (.inl e2)
  by_cases e3 : c = B + n + 1
  · exact .inr (.inr (.inl e3))
  exact .inr (.inr (.inr ⟨c - B, by omega, by omega⟩))
theorem fps_out {B n c : Nat} (h : c ∉ fps B n) : c < B ∨ B + n + 2 < c := by
  by_cases q1 : c < B
  · exact .inl q1
  · refine .inr ?_
    by_cases q2 : B + n + 2 < c
    · exact q2
    · exact absurd (mem_fps.mpr ⟨by omega, by omega⟩) h
theorem fps_lt {B n c z : Nat} (h : c ∈ fps B n) (hz : B + n + 2 < z) : c < z := by
  have := (mem_fps.mp h).2
  omega
theorem rows_at {X : Cx} {pins : List (Addr × Obj)} {σ : L2.St} {H : Hp} {s : Shared} {as : List (Bool × Addr)} {rows : List (List V)} (I : Inv X pins σ H s) (hl : as.length = rows.length) (hq : ∀ (j : Nat) (a : Bool × Addr) (xs : List V), as[j]? = some a → rows[j]? = some xs → SqB X.K H a xs) :
    ∃ its : Nat → List Value, ∀ j, j < rows.length → Vals (rows.getD j []) (its j) ∧ SqK s.heap (as.getD j (false, 0)) (its j).toArray := by
  have ex : ∀ j, ∃ its : List Value, j < rows.length → Vals (rows.getD j []) its ∧ SqK s.heap (as.getD j (false, 0)) its.toArray := fun j => by
    by_cases hj : j < rows.length
    · have hj2 : j < as.length := by omega
      obtain ⟨its, rv, p⟩ := SqB.vals I (hq j as[j] rows[j] (List.getElem?_eq_getElem hj2) (List.getElem?_eq_getElem hj))
      refine ⟨its, fun _ => ⟨?_, ?_⟩⟩
      · rw [List.getD_eq_getElem?_getD, List.getElem?_eq_getElem hj]
        exact rv
      · rw [List.getD_eq_getElem?_getD, List.getElem?_eq_getElem hj2]
        exact p
    · exact ⟨[], fun h => absurd h hj⟩
  exact ⟨fun j => Classical.choose (ex j), fun j => Classical.choose_spec (ex j)⟩
theorem turn_zipN {P : Program} {w : World} {K : PySem.W.Frag} {x : Str} {tpos : Pos} {as : List (Bool × Addr)} {rows : List (List V)} {m B : Nat} (hl : as.length = rows.length) (h0 : 0 < rows.length) (h1 : rows.length ≤ 100000) (hm : ∀ (j : Nat) (xs : List V), rows[j]? = some xs → xs.length = m) (hB : ∀ j, j < rows.length → (as.getD j (false, 0)).2 < B) :
    Turn P w K (.Name x tpos) (ItN K as rows m) (fps B rows.length) (B + rows.length + 2) (fun i h => ZipAt B rows.length i (fun j => as.getD j (false, 0)) h) where
  mem := mem_fps.mpr ⟨by omega, by omega⟩
  obj := fun i h st c hc => by
    obtain ⟨⟨f0, f1, hf, hz⟩, ti, ⟨arr, ha, to⟩, its⟩ := st
    rcases fps_cases hc with e | e | e | ⟨j, hj, e⟩
    · rw [e]; exact ⟨_, hz, fun v q => nomatch q⟩
    · rw [e]; exact ⟨_, ti, fun v q => nomatch q⟩
    · rw [e]; exact ⟨_, to, fun v q => nomatch q⟩
    · rw [e]
      exact (its j hj).there
  keep := fun i h h' st k => st.keep fun b b1 b2 o e => k b (mem_fps.mpr ⟨b1, b2⟩) o e
  item := by
    intro X hP hw hK hc i pins s σ H E I hf st hg
    subst hP hw hK
    have hg' := hg
    obtain ⟨hi, hq⟩ := hg'
    obtain ⟨its, hits⟩ := rows_at I hl hq
    have hlen : ∀ j, j < rows.length → (its j).length = m := fun j hj => by
      rw [← (hits j hj).1.length, List.getD_eq_getElem?_getD, List.getElem?_eq_getElem hj]
      exact hm j _ (List.getElem?_eq_getElem hj)
    have hx : ∀ j, j < rows.length → (its j).toArray[i]? = some ((its j).getD i .none) := fun j hj => by
      have := hlen j hj
      rw [List.getElem?_toArray, List.getD_eq_getElem?_getD, List.getElem?_eq_getElem (by omega)] <;> rfl
    refine pyNext_item h0 h1 st (fun j hj => (hits j hj).2) hB hx fun h' z' hT hsz hk => ?_
    have new : ObjOk X.prog X.w (upd H s.heap.objs.size (.tup (rows.map fun xs => xs.getD i .non))) h' s.heap.objs.size (.tup (rows.map fun xs => xs.getD i .non)) := by
      refine ⟨by rw [List.length_map]; show _ ≤ 2 ^ 24; omega, _, vals_map (g := fun j => (its j).getD i .none) fun j xs hj => ?_, ⟨_, hT, rfl, _, rfl⟩⟩
      have hjl : j < rows.length := (List.getElem?_eq_some_iff.mp hj).1
      have rv := (hits j hjl).1
      rw [List.getD_eq_getElem?_getD, hj] at rv
      have hi2 : i < xs.length := by rw [hm j xs hj]; exact hi
      obtain ⟨u, hu, ru⟩ := Vals.get rv (List.getElem?_eq_getElem hi2)
      rw [List.getD_eq_getElem?_getD, List.getElem?_eq_getElem hi2, List.getD_eq_getElem?_getD, hu]
      exact ru
    have I1 : Inv X pins σ (upd H s.heap.objs.size (.tup (rows.map fun xs => xs.getD i .non))) { s with heap := h' } :=
      I.turnedNew (t' := s.toks) (ch := fps B rows.length) (fun c o hb q => hk c o (fps_out hb) q) hf (Nat.le_refl _) new
    refine ⟨_, rfl, wpAny_pure ⟨.ref s.heap.objs.size, _, I1, rfl, ⟨_, rfl, I.hok.fresh (Nat.le_refl _), rfl⟩, z', fun c hcm => ?_⟩⟩
    have hlt : c < s.heap.objs.size := by
      obtain ⟨_, _, _, hz⟩ := st.z
      exact fps_lt hcm (Heap.lt_size hz)
    rw [upd_ne (Nat.ne_of_lt hlt)]
    exact (hf c hcm).1
  done := by
    intro X hP hw hK hc i pins s σ H E I hf st hg
    subst hP hw hK
    have hg' := hg
    obtain ⟨hi, hq⟩ := hg'
    obtain ⟨its, hits⟩ := rows_at I hl hq
    have hx : (its 0).toArray[i]? = none := by
      have e := (hits 0 h0).1.length
      rw [List.getD_eq_getElem?_getD, List.getElem?_eq_getElem h0] at e
      have e2 := hm 0 _ (List.getElem?_eq_getElem h0)
      rw [List.getElem?_toArray]
      refine List.getElem?_eq_none ?_
      have e3 : (rows[0] : List V).length = (its 0).length := e
      omega
    exact pyNext_end (I.ok.hd hc) h0 st (fun j hj => (hits j hj).2) hB hx fun h' hk => ⟨rfl, I.turnedL (t' := s.toks) (ch := fps B rows.length) (fun c o hb q => hk c o (fps_out hb) q) hf⟩
  self := fun A i s Q E st h => self_zip st h
/-- zip(*e), e a tuple or a list of tuples of one length -/
def iZipS (K : PySem.W.Frag) (te : TE) : TI := fun σ H R => te σ H fun x H1 => ∃ (p : Addr) (as : List (Bool × Addr)) (rows : List (List V)) (m : Nat), x = V.ref p ∧ (SqT K H1 p ((as.map fun a => V.ref a.2)) ∨ SqL K H1 p ((as.map fun a => V.ref a.2))) ∧ as.length = rows.length ∧ 0 < rows.length ∧ rows.length ≤ 100000 ∧ (∀ (j : Nat) (xs : List V), rows[j]? = some xs → xs.length = m) ∧
  (∀ (j : Nat) (a : Bool × Addr) (xs : List V), as[j]? = some a → rows[j]? = some xs → SqB K H1 a xs) ∧ R (ItN K as rows m) H1
theorem refs_vals : ∀ {as : List (Bool × Addr)} {us : List Value}, Vals ((as.map fun a => V.ref a.2)) us → us = (as.map fun a => Value.ref a.2)
  | [], _, .nil => rfl
  | a :: as, _, .cons r t => by
    obtain rfl : _ = Value.ref a.2 := r
    rw [refs_vals t] <;> rfl
theorem addrs_eq {as : List (Bool × Addr)} : (as.map fun a => Value.ref a.2) = addrs (fun j => as.getD j (false, 0)) as.length := by
  unfold addrs
  apply List.ext_getElem?
  intro i
  rw [List.getElem?_map, List.getElem?_map]
  by_cases hi : i < as.length
  · rw [List.getElem?_eq_getElem hi, List.getElem?_range hi]
    show some (Value.ref as[i].2) = some (Value.ref (as.getD i (false, 0)).2)
    rw [List.getD_eq_getElem?_getD, List.getElem?_eq_getElem hi] <;> rfl
  · rw [List.getElem?_eq_none (by omega), List.getElem?_eq_none (by simp; omega)] <;> rfl
theorem pi_zipS {X : Cx} {e : Expr} {te : TE} {p sp pos tpos : Pos} {x : Str} (hg : Gl X "zip") (hm : X.mg "zip" = none) (he : PE X e te) (hs : starEach [.Starred e sp] X.env = [(true, eval e X.env)] := by rfl) :
    PI X (.Name x tpos) (.Call (.Name "zip" p) [.Starred e sp] [] pos) (iZipS X.K te) := by
  refine ⟨fun pins s σ H R I h => ?_⟩
  refine Call_ (ld_blt I hg hm PyProof.Rows.boot_zip ?_)
  rw [hs]
  refine PySem.W.ks_call (P := fun _ => True) rfl (fun h _ => ⟨.machine, .inr (.inl rfl), PySem.W.Looks.of_pure rfl⟩) (PySem.W.ks_lone (thn (he.run pins s σ H _ I h) fun v s1 ⟨y, H1, I1, ry, a, as, rows, m, ey, hq, hl, h0, h1, h2, h3, q⟩ => ?_))
  subst ey
  obtain rfl : v = Value.ref a := ry
  refine StX.star_any I1 hq fun us s2 I2 rv => ⟨trivial, ?_⟩
  rw [refs_vals rv, addrs_eq, hl]
  obtain ⟨its, hits⟩ := rows_at I2 hl h3
  have hB : ∀ j, j < rows.length → (as.getD j (false, 0)).2 < s2.heap.objs.size := fun j hj => by
    obtain ⟨o, ho⟩ := (hits j hj).2.there
    exact Heap.lt_size ho
  refine call_zipN h0 h1 (fun j hj => (hits j hj).2) fun h' z k => self_zip (s := { s2 with heap := h' }) z ?_
  refine ⟨s2.heap.objs.size + rows.length + 2, fps s2.heap.objs.size rows.length, _, _, H1, rfl, I2.kept (t' := s2.toks) k, turn_zipN hl h0 h1 h2 hB, z, fun b hb => ?_, q⟩
  have hle := (mem_fps.mp hb).1
  exact I2.fpOk hle (I2.hok.fresh hle)
end ZN
namespace DL
open PySem PySem.Spec PyProof.Rows L2 ZN
section
variable {X : Cx} {b : Bg} {e : Expr} {pos : Pos} {K : PySem.W.Frag} {Fx : Hp}
/-- the columns of rows of m items -/
def colsD (rs : List (List Dt)) (m : Nat) : List Dt := (List.range m).map fun i => .tup (rs.map fun r => r.getD i .non)
theorem colsD_len (rs : List (List Dt)) (m : Nat) : (colsD rs m).length = m := by unfold colsD; simp
theorem colsD_at {rs : List (List Dt)} {m i : Nat} {d : Dt} (h : (colsD rs m)[i]? = some d) : i < m ∧ d = .tup (rs.map fun r => r.getD i .non) := by
  have hi : i < m := by have := (List.getElem?_eq_some_iff.mp h).1; rw [colsD_len] at this; exact this
  unfold colsD at h
  rw [List.getElem?_map, List.getElem?_range hi] at h
  exact ⟨hi, (Option.some.inj h).symm⟩
@[reducible] def iZS (Te : DT) : DAt := fun γ P => Te γ fun x => ∃ (rs : List (List Dt)) (m : Nat), (x = .tup (rs.map Dt.tup) ∨ x = .lst (rs.map Dt.tup)) ∧ 0 < rs.length ∧ rs.length ≤ 100000 ∧ (∀ r, r ∈ rs → r.length = m) ∧ P (colsD rs m)
theorem rep_tups : ∀ {rs : List (List Dt)} {vs : List V}, RepL b Fx vs (rs.map Dt.tup) → ∃ (as : List (Bool × Addr)) (rows : List (List V)), vs = (as.map fun a => V.ref a.2) ∧ as.length = rs.length ∧ rows.length = rs.length ∧ ∀ (j : Nat) (r : List Dt), rs[j]? = some r → ∃ a xs, as[j]? = some (true, a) ∧ rows[j]? = some xs ∧ Fx a = some (.tup xs) ∧ RepL b Fx xs r
  | [], _, h => by
    cases h
    exact ⟨[], [], rfl, rfl, rfl, fun j r e => by simp at e⟩
  | r :: rs, _, h => by
    cases h with
    | cons ra rb =>
      cases ra with
      | tup e q =>
        rename_i a0 xs0
        obtain ⟨as, rows, rfl, h1, h2, h3⟩ := rep_tups rb
        refine ⟨(true, a0) :: as, xs0 :: rows, rfl, by simp [h1], by simp [h2], fun j r' e' => ?_⟩
        cases j with
        | zero =>
          have e2 : r = r' := by simpa using e'
          subst e2
          exact ⟨_, _, rfl, rfl, e, q⟩
        | succ j => exact h3 j r' (by simpa using e')
theorem repl_map {rows : List (List V)} {rs : List (List Dt)} {i m : Nat} (hl : rows.length = rs.length) (hm : ∀ r, r ∈ rs → r.length = m) (hi : i < m) (h : ∀ (j : Nat) (xs : List V) (r : List Dt), rows[j]? = some xs → rs[j]? = some r → RepL b Fx xs r) :
    RepL b Fx (rows.map fun xs => xs.getD i .non) (rs.map fun r => r.getD i .non) := by
  induction rows generalizing rs with
  | nil =>
    cases rs with
    | nil => exact .nil
    | cons _ _ => simp at hl
  | cons xs rows ih =>
    cases rs with
    | nil => simp at hl
    | cons r rs =>
      have q := h 0 xs r rfl rfl
      have hr : r.length = m := hm r List.mem_cons_self
      obtain ⟨v, hv, rv⟩ := q.get' (List.getElem?_eq_getElem (show i < r.length by omega))
      refine .cons ?_ (ih (by simpa using hl) (fun r' hr' => hm r' (List.mem_cons_of_mem _ hr')) fun j xs' r' e1 e2 => h (j + 1) xs' r' (by simpa using e1) (by simpa using e2))
      show Rep b Fx (xs.getD i .non) (r.getD i .non)
      rw [List.getD_eq_getElem?_getD, hv, List.getD_eq_getElem?_getD, List.getElem?_eq_getElem (show i < r.length by omega)]
      exact rv
theorem walkd_zipN {as : List (Bool × Addr)} {rows : List (List V)} {rs : List (List Dt)} {m : Nat} (hl1 : as.length = rs.length) (hl2 : rows.length = rs.length) (hm : ∀ r, r ∈ rs → r.length = m) (h : ∀ (j : Nat) (r : List Dt), rs[j]? = some r → ∃ a xs, as[j]? = some (true, a) ∧ rows[j]? = some xs ∧ Fx a = some (.tup xs) ∧ RepL b Fx xs r) :
    WalkD b (ZN.ItN K as rows m) Fx (colsD rs m) := by
  have g : ∀ H, Sub Fx H → ∀ j a xs, as[j]? = some a → rows[j]? = some xs → SqB K H a xs := fun H s j a xs e1 e2 => by
    have hj : j < rs.length := by rw [← hl1]; exact (List.getElem?_eq_some_iff.mp e1).1
    obtain ⟨a', xs', f1, f2, f3, _⟩ := h j _ (List.getElem?_eq_getElem hj)
    rw [e1] at f1; rw [e2] at f2
    cases f1; cases f2
    exact SqB.T (SqT.of (s _ _ f3))
  refine ⟨fun i H v H' => ∃ T, v = .ref T ∧ H T = none ∧ H' = upd H T (.tup (rows.map fun xs => xs.getD i .non)), ⟨fun i H hi s => ⟨by rw [colsD_len] at hi; exact hi, g H s⟩, fun H s => ⟨by rw [colsD_len]; exact Nat.le_refl _, g H s⟩, fun i H x H' _ _ y => y⟩, fun i H x H' hi y => ?_⟩
  rw [colsD_len] at hi
  obtain ⟨T, e1, e2, e3⟩ := y
  refine ⟨.tup (rs.map fun r => r.getD i .non), ?_, .inr ⟨T, _, _, e1, e2, e3, repl_map hl2 hm hi fun j xs r q1 q2 => ?_, rfl⟩⟩
  · unfold colsD
    rw [List.getElem?_map, List.getElem?_range hi] <;> rfl
  · obtain ⟨a', xs', f1, f2, f3, f4⟩ := h j r q2
    rw [q1] at f2
    cases f2
    exact f4
theorem i_zipS {x : Str} {tpos p sp : Pos} (hg : Gl X "zip") (hm : X.mg "zip" = none) (he : XE X b e Te) (hs : starEach [.Starred e sp] X.env = [(true, eval e X.env)] := by rfl) :
    XI X b (.Name x tpos) (.Call (.Name "zip" p) [.Starred e sp] [] pos) (iZS Te) := by
  obtain ⟨_, h1, h2⟩ := he
  refine ⟨_, ZN.pi_zipS hg hm h1 hs, fun P n t R q => h2 _ n t _ fun v d F1 H1 x1 r1 t1 => ?_⟩
  obtain ⟨rs, m, ed, l0, l1, lm, t1⟩ := t1
  rcases ed with rfl | rfl
  · cases r1 with
    | tup h r =>
      obtain ⟨as, rows, rfl, k1, k2, k3⟩ := rep_tups r
      refine ⟨_, as, rows, m, rfl, .inl (SqT.of (x1.sub _ _ h)), by omega, by omega, by omega, fun j xs e => ?_, fun j a xs e1 e2 => ?_, q _ _ F1 H1 x1 (walkd_zipN k1 k2 lm k3) t1⟩
      · have hj : j < rs.length := by rw [← k2]; exact (List.getElem?_eq_some_iff.mp e).1
        obtain ⟨a', xs', f1, f2, f3, f4⟩ := k3 j _ (List.getElem?_eq_getElem hj)
        rw [e] at f2; cases f2
        rw [f4.length]
        exact lm _ (List.getElem_mem hj)
      · have hj : j < rs.length := by rw [← k2]; exact (List.getElem?_eq_some_iff.mp e2).1
        obtain ⟨a', xs', f1, f2, f3, f4⟩ := k3 j _ (List.getElem?_eq_getElem hj)
        rw [e1] at f1; rw [e2] at f2; cases f1; cases f2
        exact SqB.T (SqT.of (x1.sub _ _ f3))
  · cases r1 with
    | lst h r =>
      obtain ⟨as, rows, rfl, k1, k2, k3⟩ := rep_tups r
      refine ⟨_, as, rows, m, rfl, .inr (SqL.of (x1.sub _ _ h)), by omega, by omega, by omega, fun j xs e => ?_, fun j a xs e1 e2 => ?_, q _ _ F1 H1 x1 (walkd_zipN k1 k2 lm k3) t1⟩
      · have hj : j < rs.length := by rw [← k2]; exact (List.getElem?_eq_some_iff.mp e).1
        obtain ⟨a', xs', f1, f2, f3, f4⟩ := k3 j _ (List.getElem?_eq_getElem hj)
        rw [e] at f2; cases f2
        rw [f4.length]
        exact lm _ (List.getElem_mem hj)
      · have hj : j < rs.length := by rw [← k2]; exact (List.getElem?_eq_some_iff.mp e2).1
        obtain ⟨a', xs', f1, f2, f3, f4⟩ := k3 j _ (List.getElem?_eq_getElem hj)
        rw [e1] at f1; rw [e2] at f2; cases f1; cases f2
        exact SqB.T (SqT.of (x1.sub _ _ f3))
end
end DL

namespace DL
open PySem PySem.Spec PyProof.Rows L2
section
variable {X : Cx} {b : Bg} {e e1 e2 e3 o tg : Expr} {es : List Expr} {pos : Pos} {K : PySem.W.Frag} {Fx : Hp}
/-! ### instances: fields, methods -/
/-- e.f -/
@[reducible] def dFld (C : Addr) (f : Str) (Ta : DT) : DT := fun γ P => Ta γ fun d => match d with | .ins C' fs => C' = C ∧ ∃ z, fs.lookup f = some z ∧ P z | _ => False
theorem x_fld {C : Addr} {f : Str} (c : Cls X.K C) (nf : NoAttr X.K C f) (ha : XE X b e Ta) (hb : attributeBase e f X.env (eval e X.env) = eval e X.env := by rfl) : XE X b (.Attribute e f pos) (dFld C f Ta) := by
  obtain ⟨_, h1, h2⟩ := ha
  refine ⟨_, pe_fld h1 hb, fun P n t Q q => h2 _ n t _ fun v d F1 H1 x1 r1 t1 => ?_⟩
  cases r1 <;> first | exact t1.elim | skip
  rename_i hh r
  obtain ⟨ec, z, hz, t2⟩ := t1
  subst ec
  obtain ⟨w, hw, rw_⟩ := r.look hz
  exact ⟨_, _, _, _, w, rfl, x1.sub _ _ hh, c, nf, hw, q _ _ F1 H1 x1 rw_ t2⟩
/-- o.m(e, ..) -/
@[reducible] def dMeth (C : Addr) (mn : Str) (m : Nat) (T : DSp) (To : DT) (Ta : DAt) : DT := fun γ P => To γ fun d => match d with | .ins C' fs => C' = C ∧ fs.lookup mn = none ∧ Ta γ (fun ds => ds.length + 1 = m ∧ T (.ins C' fs :: ds) P) | _ => False
theorem x_meth {k : Nat} {f C : Addr} {fd : FuncData} {ps : List Str} {mn : Str} {p : Pos} {m : Nat} {T : DSp} {To : DT} {Ta : DAt} {pl : Sem Bool} (c : Cls X.K C) (hm : Meth X.K C mn f) (F : FnOk X.prog X.w X.K X.mg X.base CX0 k f fd ps (spD b m T)) (hr : Room k X.A) (hb : Binds X.K fd ps []) (ho : XE X b o To) (ha : XA X b (e :: es) Ta)
    (hst : starEach (e :: es) X.env = (false, eval e X.env) :: starEach es X.env := by rfl) (hpl : (backTo pos (starEach es X.env)).any (·.1) = false := by rfl)
    (ht : eval (.Call (.Attribute o mn p) (e :: es) [] pos) X.env = (do
      let ov ← eval o X.env
      standAt p.atName
      let (f, first) ← holding [ov] (getMethod ov mn pl)
      callWith pos f first (backTo pos (starEach (e :: es) X.env)) (backToKw pos (keywordEach [] X.env))) := by rfl) :
    XE X b (.Call (.Attribute o mn p) (e :: es) [] pos) (dMeth C mn m T To Ta) := by
  obtain ⟨_, h1, h2⟩ := ho; obtain ⟨_, g1, g2⟩ := ha
  refine ⟨_, pe_meth (pl := pl) h1 c hm F hr hb .nil pass0 g1 hst hpl ht, fun P n t Q q => h2 _ n t _ fun v d F1 H1 x1 r1 t1 => ?_⟩
  cases r1 <;> first | exact t1.elim | skip
  rename_i hh r
  obtain ⟨ec, hz, t2⟩ := t1
  subst ec
  refine ⟨_, _, _, rfl, x1.sub _ _ hh, r.no hz, g2 _ (n.to x1) t2 _ fun vs ds F2 H2 x2 r2 t3 => ?_⟩
  show spD b m T (_ :: (vs ++ [])) H2 Q _
  rw [List.append_nil]
  exact ⟨F2, _ :: ds, P, x2.ok, .cons (x2.mono (.ins hh r)) r2, t3.1, t3.2, fun v d F' H' x r p1 => q v d F' H' ((x1.trans x2).trans x) r p1⟩
theorem x_meth0 {k : Nat} {f C : Addr} {fd : FuncData} {ps : List Str} {mn : Str} {p : Pos} {m : Nat} {T : DSp} {To : DT} {pl : Sem Bool} (c : Cls X.K C) (hm : Meth X.K C mn f) (F : FnOk X.prog X.w X.K X.mg X.base CX0 k f fd ps (spD b m T)) (hr : Room k X.A) (hb : Binds X.K fd ps []) (ho : XE X b o To)
    (ht : eval (.Call (.Attribute o mn p) [] [] pos) X.env = (do
      let ov ← eval o X.env
      standAt p.atName
      let (f, first) ← holding [ov] (getMethod ov mn pl)
      callWith pos f first (backTo pos (starEach [] X.env)) (backToKw pos (keywordEach [] X.env))) := by rfl) :
    XE X b (.Call (.Attribute o mn p) [] [] pos) (dMeth C mn m T To aNil) := by
  obtain ⟨_, h1, h2⟩ := ho
  refine ⟨_, pe_meth0 (pl := pl) h1 c hm F hr hb .nil pass0 ht, fun P n t Q q => h2 _ n t _ fun v d F1 H1 x1 r1 t1 => ?_⟩
  cases r1 <;> first | exact t1.elim | skip
  rename_i hh r
  obtain ⟨ec, hz, t2⟩ := t1
  subst ec
  refine ⟨_, _, _, rfl, x1.sub _ _ hh, r.no hz, ?_⟩
  exact ⟨F1, [_], P, x1.ok, .cons (.ins hh r) .nil, t2.1, t2.2, fun v d F' H' x r p1 => q v d F' H' (x1.trans x) r p1⟩
/-! ### a dict's value by a text key -/
theorem valV_keys {k : Str} : ∀ {vs : List (Str × V)}, valV (keysOf vs) (Sum.inr k) = vs.lookup k
  | [] => rfl
  | (n, v) :: vs => by
    show valV ((Sum.inr n, v) :: keysOf vs) (Sum.inr k) = _
    rw [List.lookup_cons]
    by_cases h : k = n
    · subst h
      rw [valV_pos rfl, beq_self_eq_true]
    · rw [valV_neg (fun e => h (Sum.inr.inj e).symm), valV_keys, show (k == n) = false from by simpa using h]
@[reducible] def dDget (Ta Tkk : DT) : DT := fun γ P => Ta γ fun d => Tkk γ fun k => match d, k with | .dK kvs, .str x => ∃ z, kvs.lookup x = some z ∧ P z | _, _ => False
theorem x_dget (hu : X.A.units + 64 < cLine) (ha : XE X b e1 Ta) (hk : XE X b e2 Tkk) (hs : NoSl e2 := by intro _ _; rfl) : XE X b (.Subscript e1 e2 pos) (dDget Ta Tkk) := by
  obtain ⟨_, h1, h2⟩ := ha; obtain ⟨_, g1, g2⟩ := hk
  refine ⟨_, pe_dget (by omega) h1 g1 hs, fun P n t Q q => h2 _ n t _ fun v d F1 H1 x1 r1 t1 => g2 _ (n.to x1) t1 _ fun w k F2 H2 x2 r2 t2 => ?_⟩
  cases r1 <;> cases r2 <;> first | exact t2.elim | skip
  rename_i hh r x
  obtain ⟨z, hz, t3⟩ := t2
  obtain ⟨u, hu', ru⟩ := r.look hz
  refine ⟨_, u, rfl, ?_, q _ _ F2 H2 (x1.trans x2) (x2.mono ru) t3⟩
  have := DGet.k (k := Sum.inr x) (x2.sub _ _ (x2.grow _ _ hh))
  rw [valV_keys, hu'] at this
  exact this
/-! ### an instance of one's own: its fields stored -/
def putD (f : Str) (d : Dt) : List (Str × Dt) → List (Str × Dt)
  | [] => [(f, d)]
  | (g, x) :: r => if g = f then (g, d) :: r else (g, x) :: putD f d r
theorem RepF.put {F : Hp} {f : Str} {v : V} {d : Dt} (r : Rep b F v d) : ∀ {fs : List (Str × Dt)} {vs : List (Str × V)}, RepF b F vs fs → RepF b F (putF f v vs) (putD f d fs)
  | [], _, h => by cases h; exact .cons r .nil
  | (g, x) :: fs, _, h => by
    cases h with
    | cons q t =>
      by_cases e : g = f
      · unfold putF putD
        rw [if_pos e, if_pos e]
        exact .cons r t
      · unfold putF putD
        rw [if_neg e, if_neg e]
        exact .cons q (RepF.put r t)
theorem RepF.length {F : Hp} : ∀ {fs : List (Str × Dt)} {vs : List (Str × V)}, RepF b F vs fs → vs.length = fs.length
  | [], _, h => by cases h; rfl
  | (g, x) :: fs, _, h => by
    cases h with
    | cons q t => exact congrArg (· + 1) (RepF.length t)
/-- self.f = e -/
@[reducible] def sFldD (i : Nat) (C : Addr) (f : Str) (Ta : DT) : DSt := fun E γ => match gat γ i with
  | .obj l d => (match d with | .ins C' fs => C' = C ∧ fs.length < 1000 ∧ Ta γ (fun z => E.nx (gset γ i (.obj l (.ins C' (putD f z fs))))) | _ => False)
  | _ => False
theorem s_fld (i : Nat) {C : Addr} {f x : Str} {p1 p2 : Pos} (c : Cls X.K C) (nf : NoAttr X.K C f) (ha : XE X b e Ta) (hN : X.N[i]? = some x := by rfl) (hv : Vis X.env.scope x := by first | exact Or.inl rfl | exact Or.inr (Or.inl rfl) | exact Or.inr (Or.inr rfl)) (hd : (x == ("__debug__" : Str)) = false := by decide)
    (hcd : (x == ("__classdict__" : Str)) = false := by decide) (hs : swapsWith e (some (.Attribute (.Name x p1) f p2)) pos.line X.env = pure false := by rfl) : XS X b (.Assign [.Attribute (.Name x p1) f p2] e pos) (sFldD i C f Ta) := by
  obtain ⟨_, h1, h2⟩ := ha
  refine ⟨_, ps_fld (pe_var hN hv hd hcd) h1 hs, fun {Fm F0 H0 F H σ γ} E n t D k => ?_⟩
  unfold sFldD at t
  have hi := n.slot i
  cases e : gat γ i with
  | un => rw [e] at t; exact t.elim
  | val d => rw [e] at t; exact t.elim
  | own l d => rw [e] at t; exact t.elim
  | hid l d => rw [e] at t; exact t.elim
  | obj l d =>
    rw [e] at hi t
    cases d <;> first | exact t.elim | skip
    rename_i C' fs
    obtain ⟨ec, hl, t⟩ := t
    subst ec
    obtain ⟨u, a1, a2, a3, a4, a5, a6⟩ := hi
    cases a3 with
    | ins r =>
      refine h2 _ n t _ fun v z F1 H1 x1 r1 t1 => ⟨_, a1, l, _, _, _, rfl, x1.keep _ _ a6 a2 .ins, c, nf, by rw [r.length]; exact hl, k.nx ((n.to x1).wrO e (.ins ((RepF.mono x1.grow r).put r1))) t1⟩
/-! ### instances made -/
abbrev DIp := List Dt → (List (Str × Dt) → Prop) → Prop
/-- what an __init__ promises: from the arguments to the fields -/
def spI (b : Bg) (C : Addr) (m : Nat) (T : DIp) : Sp := fun vs H Q _ => ∃ (x dx : Addr) (ws : List V) (F H1 : Hp) (ds : List Dt) (R : List (Str × Dt) → Prop), vs = .ref x :: ws ∧ H = upd (upd H1 dx (.own x)) x (.ins C dx []) ∧ H1 x = none ∧ H1 dx = none ∧ dx ≠ x ∧
  Ok b F H1 ∧ RepL b F ws ds ∧ ds.length = m ∧ T ds R ∧ ∀ F' H' d2 us fs, Ext b F H1 F' H' → H' x = some (.ins C d2 us) → F' x = none → RepF b F' us fs → R fs → Q .non H'
@[reducible] def dMake (C : Addr) (m : Nat) (T : DIp) (Ta : DAt) : DT := fun γ P => Ta γ fun ds => ds.length = m ∧ T ds fun fs => P (.ins C fs)
theorem x_make {k : Nat} {f C : Addr} {fd : FuncData} {ps : List Str} {x : Str} {p : Pos} {m : Nat} {T : DIp} {Ta : DAt} (M : Mk X.K C f) (F : FnOk X.prog X.w X.K X.mg X.base CX0 k f fd ps (spI b C m T)) (hr : Room (k + 1) X.A) (hg : Gl X x) (hm : X.mg x = some (.ref C)) (hb : Binds X.K fd ps [])
    (ha : XA X b (e :: es) Ta) (hdb : (x == ("__debug__" : Str)) = false := by decide) (he : starEach (e :: es) X.env = (false, eval e X.env) :: starEach es X.env := by rfl) (hpl : (backTo pos (starEach es X.env)).any (·.1) = false := by rfl) : XE X b (.Call (.Name x p) (e :: es) [] pos) (dMake C m T Ta) := by
  obtain ⟨_, h1, h2⟩ := ha
  refine ⟨_, pe_make M F hr hg hm hb .nil pass0 h1 hdb he hpl, fun P n t Q q => h2 _ n t _ fun vs ds F1 H1 x1 r1 t1 => ?_⟩
  intro a dx ha hdx hne
  show spI b C m T (_ :: (vs ++ [])) _ _ _
  rw [List.append_nil]
  refine ⟨a, dx, vs, F1, H1, ds, _, rfl, rfl, ha, hdx, hne, x1.ok, r1, t1.1, t1.2, fun F' H' d2 us fs y hx hf r p1 => ⟨rfl, ?_⟩⟩
  have y2 := y.take ha (x1.ok.nb ha) hx
  exact q _ _ _ H' (x1.trans y2) (.ins upd_same (RepF.mono (fun c o z => by rw [upd_ne (ne_of_none z hf)]; exact z) r)) p1
def startI (N : List Str) (l C : Addr) (ds : List Dt) : Gm := gset (startD N (.non :: ds)) 0 (.obj l (.ins C []))
end
section
variable {P : Program} {w : World} {K : PySem.W.Frag} {mg : Str → Option Value} {base : Heap} {b : Bg}
theorem start_adr {N : List Str} {ds : List Dt} {j : Nat} : (gat (startD N ds) j).adr = none := by
  have gl : ∀ (l : List Dt) (m : Nat) (i : Nat), (gat (l.map Sl.val ++ List.replicate m .un) i).adr = none := fun l => by
    induction l with
    | nil =>
      intro m
      induction m with
      | zero => intro i; rfl
      | succ m ih =>
        intro i
        cases i with
        | zero => rfl
        | succ i => exact ih i
    | cons a r ih =>
      intro m i
      cases i with
      | zero => rfl
      | succ i => exact ih m i
  exact gl ds _ j
/-- THE RULE for an __init__ -/
theorem fn_I {x qual : Str} {st : Stmt} {f C : Addr} {fd : FuncData} {N ps : List Str} {k m : Nat} {T : DIp} (F : Fun K x qual st f fd) (S : FnScope N ps (defScope st)) (hm : ps.length = m + 1)
    (hbody : ∀ (X : Cx) (outer : List Env) (cdv : Value) (A : Around) (s : Shared) (H : Hp) (E : L2.XK), X = (cxOf CX0 P w K mg base N qual (defScope st) f cdv A outer s H E).nox → Room k X.A → ∃ T', XSs (cxOf CX0 P w K mg base N qual (defScope st) f cdv A outer s H E).nox b (defBody st) T' ∧
      ∀ (l : Addr) (ds : List Dt) (R : List (Str × Dt) → Prop), ds.length = m → T ds R → T' { nx := fun γ => ∃ fs, gat γ 0 = .obj l (.ins C fs) ∧ R fs, rt := fun γ d => d = .non ∧ ∃ fs, gat γ 0 = .obj l (.ins C fs) ∧ R fs } (startI N l C ds)) :
    FnOk P w K mg base CX0 (k + 1) f fd ps (spI b C m T) := by
  refine F.ok S (fun vs H Q E h => ?_) (fun cdv A outer s H vs Q E hr h => ?_)
  · obtain ⟨l, dx, ws, F0, H1, ds, R, rfl, _, _, _, _, _, h2, h3, _⟩ := h
    rw [List.length_cons, h2.length, h3, hm]
  · obtain ⟨l, dx, ws, F0, H1, ds, R, rfl, rfl, hx, hdx, hne, h1, h2, h3, h4, h5⟩ := h
    obtain ⟨T', ⟨t, t1, t2⟩, t3⟩ := hbody _ outer cdv A s _ E rfl hr
    have n1 : Nv b F0 F0 H1 F0 H1 (L2.start N (.non :: ws)) (startD N (.non :: ds)) := start_nv (Fm := F0) h1 (.cons .non h2)
    have x1 : Ext b F0 H1 F0 (upd H1 dx (.own l)) := Ext.laid h1 hdx
    have hx2 : (upd H1 dx (.own l)) l = none := by rw [upd_ne hne.symm]; exact hx
    have x2 : Ext b F0 (upd H1 dx (.own l)) F0 (upd (upd H1 dx (.own l)) l (.ins C dx [])) := Ext.laid x1.ok hx2
    have n2 := (n1.to x1).to x2
    have n3 : Nv b F0 F0 H1 F0 (upd (upd H1 dx (.own l)) l (.ins C dx [])) (L2.start N (.ref l :: ws)) (startI N l C ds) :=
      n2.setObj 0 (l := l) (u := .ins C dx []) (d := .ins C []) upd_same (.ins .nil) (h1.fF hx) hx (h1.nb hx) fun j a hj => by rw [start_adr] at hj; cases hj
    have fin : ∀ {F' H' : Hp} {σ : L2.St} {γ : Gm}, Nv b F0 F0 H1 F' H' σ γ → (∃ fs, gat γ 0 = .obj l (.ins C fs) ∧ R fs) → Q .non H' := fun {F' H' σ γ} n ⟨fs, g, r⟩ => by
      have hs := n.slot 0
      rw [g] at hs
      obtain ⟨u, _, a2, a3, a4, _, _⟩ := hs
      cases a3 with
      | ins rr => exact h5 _ _ _ _ fs n.ext a2 a4 rr r
    refine ⟨t, t1, t2 _ n3 (t3 l ds R h3 h4) _ ⟨?_, ?_, ?_, ?_⟩⟩
    · intro F' H' σ γ n r
      exact fin n r
    · intro F' H' σ γ v d n r p
      obtain ⟨rfl, p⟩ := p
      cases r
      exact fin n p
    · intro F' H' σ γ n r
      exact r.elim
    · intro F' H' σ γ n r
      exact r.elim
end
end DL

namespace DL
open PySem PySem.Spec PyProof.Rows L2
/-! dicts of one's own, by text keys -/
def putS {α : Type} (k : Str) (d : α) (kvs : List (Str × α)) : List (Str × α) := if (kvs.lookup k).isSome = true then kvs.map (fun p => if p.1 = k then (p.1, d) else p) else kvs ++ [(k, d)]
theorem putS_new {α : Type} {k : Str} {d : α} {kvs : List (Str × α)} (h : kvs.lookup k = none) : putS k d kvs = kvs ++ [(k, d)] := by unfold putS; rw [h] <;> rfl
section
variable {b : Bg} {F H : Hp}
theorem RepF.append : ∀ {vs ws : List (Str × V)} {xs ys : List (Str × Dt)}, RepF b F vs xs → RepF b F ws ys → RepF b F (vs ++ ws) (xs ++ ys)
  | _, _, _, _, .nil, s => s
  | _, _, _, _, .cons r t, s => .cons r (RepF.append t s)
theorem RepF.putS {k : Str} {v : V} {d : Dt} {vs : List (Str × V)} {fs : List (Str × Dt)} (r : Rep b F v d) (h : RepF b F vs fs) : RepF b F (DL.putS k v vs) (DL.putS k d fs) := by
  have hl : (vs.lookup k).isSome = (fs.lookup k).isSome := by
    cases e : fs.lookup k with
    | none => rw [h.no e] <;> rfl
    | some z =>
      obtain ⟨w, hw, _⟩ := h.look e
      rw [hw] <;> rfl
  unfold DL.putS
  rw [hl]
  split
  · clear hl
    rename_i hq
    clear hq
    have : ∀ {fs : List (Str × Dt)} {vs : List (Str × V)}, RepF b F vs fs → RepF b F (vs.map fun p => if p.1 = k then (p.1, v) else p) (fs.map fun p => if p.1 = k then (p.1, d) else p) := fun {fs} => by
      induction fs with
      | nil => intro vs h; cases h; exact .nil
      | cons q fs ih =>
        intro vs h
        cases h with
        | @cons n w vs2 d2 ds2 q t =>
          by_cases e : n = k
          · rw [List.map_cons, List.map_cons, if_pos (show (n, w).1 = k from e), if_pos (show (n, d2).1 = k from e)]
            exact .cons r (ih t)
          · rw [List.map_cons, List.map_cons, if_neg (show ¬ (n, w).1 = k from e), if_neg (show ¬ (n, d2).1 = k from e)]
            exact .cons q (ih t)
    exact this h
  · exact h.append (.cons r .nil)
theorem putK_keys {k : Str} {v : V} {vs : List (Str × V)} : putK (keysOf vs) (Sum.inr k) v = keysOf (putS k v vs) := by
  have hl : ((keysOf vs).any fun kv => decide (kv.1 = (Sum.inr k : Key))) = (vs.lookup k).isSome := by rw [valV_any, valV_keys]
  unfold putK putS
  rw [hl]
  split
  · unfold keysOf
    rw [List.map_map, List.map_map]
    apply List.map_congr_left
    intro p _
    by_cases e : p.1 = k
    · show (if (Sum.inr p.1 : Key) = Sum.inr k then _ else _) = _
      rw [if_pos (by rw [e])]
      show _ = (Sum.inr (if p.1 = k then (p.1, v) else p).1, (if p.1 = k then (p.1, v) else p).2)
      rw [if_pos e]
    · show (if (Sum.inr p.1 : Key) = Sum.inr k then _ else _) = _
      rw [if_neg (fun q => e (Sum.inr.inj q))]
      show _ = (Sum.inr (if p.1 = k then (p.1, v) else p).1, (if p.1 = k then (p.1, v) else p).2)
      rw [if_neg e]
  · unfold keysOf
    rw [List.map_append] <;> rfl
/-- a list of one's own of which a dict's entry says the place -/
theorem Nv.hide {Fm F0 H0 F H : Hp} {σ : L2.St} {γ : Gm} (n : Nv b Fm F0 H0 F H σ γ) (j : Nat) {m : Addr} {vs : List V} {xs : List Dt} (h : H m = some (.lst vs)) (r : RepL b F vs xs) (f : F m = none) (h0 : H0 m = none) (nb : b.bag ≠ some m)
    (new : ∀ k a, k ≠ j → (gat γ k).adr = some a → a ≠ m) : Nv b Fm F0 H0 F H σ (gset γ j (.hid m xs)) where
  ok0 := n.ok0
  fm := n.fm
  ext := n.ext
  len := by rw [gset_len]; exact n.len
  slot := fun i => by
    by_cases e : i = j
    · subst e
      rcases gat_set γ (i := i) (.hid m xs) with q | ⟨q, _⟩
      · rw [q]; exact ⟨vs, h, r, f, h0, nb⟩
      · rw [q]; exact True.intro
    · rw [gat_set_ne _ _ e]
      exact n.slot i
  dis := fun i k a hi hk => by
    have at_j : ∀ a, (gat (gset γ j (.hid m xs)) j).adr = some a → a = m := fun a hz => by
      rcases gat_set γ (i := j) (.hid m xs) with q | ⟨q, _⟩
      · rw [q] at hz; exact (Option.some.inj hz).symm
      · rw [q] at hz; cases hz
    by_cases ei : i = j
    · by_cases ek : k = j
      · rw [ei, ek]
      · exfalso
        subst ei
        rw [gat_set_ne _ _ ek] at hk
        exact new k a ek hk (at_j a hi)
    · by_cases ek : k = j
      · exfalso
        subst ek
        rw [gat_set_ne _ _ ei] at hi
        exact new i a ei hi (at_j a hk)
      · rw [gat_set_ne _ _ ei] at hi
        rw [gat_set_ne _ _ ek] at hk
        exact n.dis i k a hi hk
/-- the places within a dict that say a list's place come to hold the list -/
def resK (m : Addr) (xs : List Dt) : List (Str × Dt) → List (Str × Dt)
  | [] => []
  | (k, .ptr a) :: r => (k, if a = m then .lst xs else .ptr a) :: resK m xs r
  | p :: r => p :: resK m xs r
theorem RepF.res {m : Addr} {xs : List Dt} {ws : List V} (hm : F m = some (.lst ws)) (r : RepL b F ws xs) : ∀ {fs : List (Str × Dt)} {vs : List (Str × V)}, RepF b F vs fs → RepF b F vs (resK m xs fs)
  | [], _, h => by cases h; exact .nil
  | (k, d) :: fs, _, h => by
    cases h with
    | cons q t =>
      have ih := RepF.res hm r t
      cases d with
      | ptr a =>
        cases q
        show RepF b F _ ((k, if a = m then Dt.lst xs else .ptr a) :: resK m xs fs)
        by_cases e : a = m
        · subst e
          rw [if_pos rfl]
          exact .cons (.lst hm r) ih
        · rw [if_neg e]
          exact .cons (.ptr a) ih
      | _ => exact .cons q ih
theorem Nv.resolve {Fm F0 H0 F H : Hp} {σ : L2.St} {γ : Gm} (n : Nv b Fm F0 H0 F H σ γ) {i j : Nat} {l m : Addr} {kvs : List (Str × Dt)} {xs : List Dt} (ei : gat γ i = .obj l (.dK kvs)) (ej : gat γ j = .hid m xs) :
    ∃ F', Nv b Fm F0 H0 F' H σ (gset (gset γ i (.obj l (.dK (resK m xs kvs)))) j .un) := by
  have hj := n.slot j
  rw [ej] at hj
  obtain ⟨ws, h2, h3, h4, h5, h6⟩ := hj
  have hi := n.slot i
  rw [ei] at hi
  obtain ⟨u, g1, g2, g3, g4, g5, g6⟩ := hi
  have hij : i ≠ j := fun e => by rw [e, ej] at ei; cases ei
  have g : Sub F (upd F m (.lst ws)) := fun a o q => by rw [upd_ne (ne_of_none q h4)]; exact q
  have hne : ∀ k a, k ≠ j → (gat γ k).adr = some a → a ≠ m := fun k a hk ha e => hk (n.dis k j a ha (by rw [ej, e]; rfl))
  refine ⟨upd F m (.lst ws), n.ok0, n.fm.trans g, n.ext.take h5 h6 h2, by rw [gset_len, gset_len]; exact n.len, fun k => ?_, fun k k' a hk hk' => ?_⟩
  · by_cases ek : k = j
    · subst ek
      rcases gat_set (gset γ i (.obj l (.dK (resK m xs kvs)))) (i := k) .un with q | ⟨q, _⟩ <;> (rw [q]; exact True.intro)
    · rw [gat_set_ne _ _ ek]
      by_cases ek2 : k = i
      · subst ek2
        rcases gat_set γ (i := k) (.obj l (.dK (resK m xs kvs))) with q | ⟨q, _⟩
        · rw [q]
          have hlm : l ≠ m := hne k l hij (by rw [ei]; rfl)
          refine ⟨u, g1, g2, ?_, by rw [upd_ne hlm]; exact g4, g5, g6⟩
          cases g3 with
          | dK r => exact .dK (RepF.res upd_same (h3.mono g) (RepF.mono g r))
        · rw [q]; exact True.intro
      · rw [gat_set_ne _ _ ek2]
        exact (n.slot k).grow g fun a ha hn => by rw [upd_ne (hne k a ek ha)]; exact hn
  · have back : ∀ k a, (gat (gset (gset γ i (.obj l (.dK (resK m xs kvs)))) j .un) k).adr = some a → (gat γ k).adr = some a := fun k a hk => by
      by_cases ek : k = j
      · subst ek
        rcases gat_set (gset γ i (.obj l (.dK (resK m xs kvs)))) (i := k) .un with q | ⟨q, _⟩ <;> (rw [q] at hk; cases hk)
      · rw [gat_set_ne _ _ ek] at hk
        by_cases ek2 : k = i
        · subst ek2
          rcases gat_set γ (i := k) (.obj l (.dK (resK m xs kvs))) with q | ⟨q, _⟩
          · rw [q] at hk; rw [ei]; exact hk
          · rw [q] at hk; cases hk
        · rw [gat_set_ne _ _ ek2] at hk; exact hk
    exact n.dis k k' a (back k a hk) (back k' a hk')
end
section
variable {X : Cx} {b : Bg} {e e1 e2 e3 e4 o tg : Expr} {es : List Expr} {pos : Pos} {K : PySem.W.Frag} {Fx : Hp}
/-- x = {k1: e1, k2: e2} -/
@[reducible] def sDisp2 (i : Nat) (T1 T2 T3 T4 : DT) : DSt := fun E γ => T1 γ fun a => T2 γ fun x => T3 γ fun c => T4 γ fun y => match a, c with
  | .str k1, .str k2 => k1 ≠ k2 ∧ ∀ l, E.nx (gset γ i (.obj l (.dK [(k1, x), (k2, y)])))
  | _, _ => False
theorem s_disp2 {i : Nat} {x : Str} {p2 p3 : Pos} (hN : X.N.Nodup) (hi : X.N[i]? = some x) (hx : Loc X.env.scope x) (h1 : XE X b e1 T1) (h2 : XE X b e2 T2) (h3 : XE X b e3 T3) (h4 : XE X b e4 T4)
    (hs : swapsWith (.Dict [some e1, some e3] [e2, e4] p3) (some (.Name x p2)) pos.line X.env = pure false := by rfl) (hf : X.fn x = true ∨ X.env.scope.names.lookup x = some .local := by first | exact .inl rfl | exact .inr rfl | assumption) :
    XS X b (.Assign [.Name x p2] (.Dict [some e1, some e3] [e2, e4] p3) pos) (sDisp2 i T1 T2 T3 T4) := by
  obtain ⟨_, a1, b1⟩ := h1; obtain ⟨_, a2, b2⟩ := h2; obtain ⟨_, a3, b3⟩ := h3; obtain ⟨_, a4, b4⟩ := h4
  refine ⟨_, ps_set hN hi hx (pe_disp (pps_cons a1 a2 (pps_cons a3 a4 pps_nil)) rfl rfl (by simp) (show 2 ≤ 15 by decide)) hs hf, fun {Fm F0 H0 F H σ γ} E n t D k => ?_⟩
  intro p hp
  have x0 : Ext b F H F (upd H p (.dK [])) := Ext.laid n.ok hp
  refine b1 _ (n.to x0) t _ fun v1 d1 F1 H1 x1 r1 t1 => b2 _ ((n.to x0).to x1) t1 _ fun v2 d2 F2 H2 x2 r2 t2 => b3 _ (((n.to x0).to x1).to x2) t2 _ fun v3 d3 F3 H3 x3 r3 t3 => b4 _ ((((n.to x0).to x1).to x2).to x3) t3 _ fun v4 d4 F4 H4 x4 r4 t4 => ?_
  have nb : b.bag ≠ some p := n.ok.nb hp
  have y := ((x1.trans x2).trans x3).trans x4
  have hp4 : H4 p = some (.dK []) := y.keep _ _ nb upd_same .dK
  have fp4 : F4 p = none := by rw [y.new _ _ upd_same .dK]; exact n.ok.fF hp
  cases r1 <;> cases r3 <;> first | exact t4.elim | skip
  rename_i k1 k2
  obtain ⟨hk, t5⟩ := t4
  refine ⟨hp4, [(Sum.inr k1, v2), (Sum.inr k2, v4)], rfl, (show 2 ≤ 15 by decide), ?_⟩
  have em : mergeK [] [((Sum.inr k1 : Key), v2), (Sum.inr k2, v4)] = keysOf [(k1, v2), (k2, v4)] := by
    show putK (putK [] (Sum.inr k1) v2) (Sum.inr k2) v4 = _
    rw [putK_new v2 rfl, putK_new v4 (by
      show valV [((Sum.inr k1 : Key), v2)] (Sum.inr k2) = none
      rw [valV_neg (fun q => hk (Sum.inr.inj q))] <;> rfl)] <;> rfl
  rw [em]
  have z : Ext b F H F4 (upd H4 p (.dK (keysOf [(k1, v2), (k2, v4)]))) := (x0.trans y).wr hp fp4 nb hp4 .dK (fun _ z => by cases z)
  exact k.nx ((n.to z).setObj i (l := p) upd_same (.dK (.cons (r2.mono (x3.grow.trans x4.grow)) (.cons r4 .nil))) fp4 (n.ext.back n.ok0 hp) nb fun j a hj hq => by
    obtain ⟨u, hu⟩ := n.there hj
    rw [hq, hp] at hu
    cases hu) (t5 p)
/-- d[k] = e, d a dict of one's own -/
@[reducible] def sDputV (i : Nat) (Tv : DT) (kx : Str) : DSt := fun E γ => match gat γ i with
  | .obj l o => (match o with | .dK kvs => kvs.length < 1000 ∧ Tv γ (fun d => E.nx (gset γ i (.obj l (.dK (putS kx d kvs))))) | _ => False)
  | _ => False
theorem putS_len {α : Type} (k : Str) (d : α) (kvs : List (Str × α)) : (putS k d kvs).length ≤ kvs.length + 1 := by
  unfold putS
  split
  · rw [List.length_map]; omega
  · rw [List.length_append] <;> exact Nat.le_refl _
theorem s_dputV (i : Nat) {x kx : Str} {jk : Nat} {p1 p2 p3 : Pos} (hu : X.A.units + 64 < cLine) (hv : XE X b e Tv) (hN : X.N[i]? = some x := by rfl) (hvi : Vis X.env.scope x := by first | exact Or.inl rfl | exact Or.inr (Or.inl rfl) | exact Or.inr (Or.inr rfl)) (hd : (x == ("__debug__" : Str)) = false := by decide)
    (hcd : (x == ("__classdict__" : Str)) = false := by decide) (hs : swapsWith e (some (.Subscript (.Name x p1) (.Constant (.str kx) jk p3) p2)) pos.line X.env = pure false := by rfl) : XS X b (.Assign [.Subscript (.Name x p1) (.Constant (.str kx) jk p3) p2] e pos) (sDputV i Tv kx) := by
  obtain ⟨_, h1, h2⟩ := hv
  refine ⟨_, ps_dput (by omega) (pe_var hN hvi hd hcd) pe_str h1 hs, fun {Fm F0 H0 F H σ γ} E n t D k => ?_⟩
  unfold sDputV at t
  have hi := n.slot i
  cases e : gat γ i with
  | un => rw [e] at t; exact t.elim
  | val d => rw [e] at t; exact t.elim
  | own l d => rw [e] at t; exact t.elim
  | hid l d => rw [e] at t; exact t.elim
  | obj l d =>
    rw [e] at hi t
    cases d <;> first | exact t.elim | skip
    rename_i kvs
    obtain ⟨hl, t⟩ := t
    obtain ⟨u, a1, a2, a3, a4, a5, a6⟩ := hi
    cases a3 with
    | @dK vs _ r =>
      refine h2 _ n t _ fun v z F1 H1 x1 r1 t1 => ⟨_, a1, ?_⟩
      have hz : (keysOf vs).length < sizeLine := by
        unfold keysOf
        rw [List.length_map, r.length]
        exact Nat.lt_trans hl (by decide)
      refine ⟨l, _, rfl, DPut.k (k := Sum.inr kx) (x1.keep _ _ a6 a2 .dK) hz, ?_⟩
      rw [putK_keys]
      exact k.nx ((n.to x1).wrO e (.dK ((RepF.mono x1.grow r).putS r1))) t1
/-- d[k] = a new list that stays one's own: slot j keeps it -/
@[reducible] def sDputL (i j : Nat) (Tl : DAt) (kx : Str) : DSt := fun E γ => match gat γ i with
  | .obj l o => (match o with | .dK kvs => kvs.length < 1000 ∧ kvs.lookup kx = none ∧ Tl γ (fun xs => ∀ m, E.nx (gset (gset γ i (.obj l (.dK (kvs ++ [(kx, .ptr m)])))) j (.hid m xs))) | _ => False)
  | _ => False
theorem s_dputL (i j : Nat) {x kx : Str} {jk : Nat} {p1 p2 p3 : Pos} (hu : X.A.units + 64 < cLine) (hij : j ≠ i) (hv : XL X b e Tl) (hN : X.N[i]? = some x := by rfl) (hvi : Vis X.env.scope x := by first | exact Or.inl rfl | exact Or.inr (Or.inl rfl) | exact Or.inr (Or.inr rfl)) (hd : (x == ("__debug__" : Str)) = false := by decide)
    (hcd : (x == ("__classdict__" : Str)) = false := by decide) (hs : swapsWith e (some (.Subscript (.Name x p1) (.Constant (.str kx) jk p3) p2)) pos.line X.env = pure false := by rfl) : XS X b (.Assign [.Subscript (.Name x p1) (.Constant (.str kx) jk p3) p2] e pos) (sDputL i j Tl kx) := by
  obtain ⟨_, h1, h2⟩ := hv
  refine ⟨_, ps_dput (by omega) (pe_var hN hvi hd hcd) pe_str h1 hs, fun {Fm F0 H0 F H σ γ} E n t D k => ?_⟩
  unfold sDputL at t
  have hi := n.slot i
  cases e : gat γ i with
  | un => rw [e] at t; exact t.elim
  | val d => rw [e] at t; exact t.elim
  | own l d => rw [e] at t; exact t.elim
  | hid l d => rw [e] at t; exact t.elim
  | obj l d =>
    rw [e] at hi t
    cases d <;> first | exact t.elim | skip
    rename_i kvs
    obtain ⟨hl, hk, t⟩ := t
    obtain ⟨u, a1, a2, a3, a4, a5, a6⟩ := hi
    cases a3 with
    | @dK vs _ r =>
      refine h2 _ n t _ fun p ws xs F1 H1 x1 hp hl1 hf1 r1 t1 => ⟨_, a1, ?_⟩
      have hz : (keysOf vs).length < sizeLine := by
        unfold keysOf
        rw [List.length_map, r.length]
        exact Nat.lt_trans hl (by decide)
      refine ⟨l, _, rfl, DPut.k (k := Sum.inr kx) (x1.keep _ _ a6 a2 .dK) hz, ?_⟩
      rw [putK_keys]
      have n2 := (n.to x1).wrO (u := .dK (keysOf (putS kx (.ref p) vs))) (d' := .dK (kvs ++ [(kx, .ptr p)])) e (.dK (by
        rw [← putS_new (d := Dt.ptr p) hk]
        exact (RepF.mono x1.grow r).putS (.ptr p)))
      have hlp : l ≠ p := fun z => by rw [z, hp] at a2; cases a2
      have hnew : ∀ q a, (gat γ q).adr = some a → a ≠ p := fun q a hq z => by
        obtain ⟨u, hu⟩ := n.there hq
        rw [z, hp] at hu
        cases hu
      refine k.nx (n2.hide j (m := p) (by rw [upd_ne hlp.symm]; exact hl1) r1 hf1 (n.ext.back n.ok0 hp) (n.ok.nb hp) fun q a hq ha => ?_) (t1 p)
      by_cases eq : q = i
      · subst eq
        rcases gat_set γ (i := q) (.obj l (.dK (kvs ++ [(kx, .ptr p)]))) with z | ⟨z, _⟩
        · rw [z] at ha
          cases ha
          exact hlp
        · rw [z] at ha; cases ha
      · rw [gat_set_ne _ _ eq] at ha
        exact hnew q a ha
/-- d[k].append(e): the list that slot j keeps -/
@[reducible] def sAppH (i j : Nat) (kx : Str) (Ta : DT) : DSt := fun E γ => match gat γ i, gat γ j with
  | .obj _ o, .hid m xs => (match o with | .dK kvs => kvs.lookup kx = some (.ptr m) ∧ Ta γ (fun d => xs.length < 100000 ∧ E.nx (gset γ j (.hid m (xs ++ [d])))) | _ => False)
  | _, _ => False
theorem s_appH (i j : Nat) {x kx : Str} {jk : Nat} {p1 p2 p3 apos cpos : Pos} (hu : X.A.units + 64 < cLine) (ha : XE X b e Ta) (hN : X.N[i]? = some x := by rfl) (hvi : Vis X.env.scope x := by first | exact Or.inl rfl | exact Or.inr (Or.inl rfl) | exact Or.inr (Or.inr rfl)) (hd : (x == ("__debug__" : Str)) = false := by decide)
    (hcd : (x == ("__classdict__" : Str)) = false := by decide) (he : starEach [e] X.env = (false, eval e X.env) :: starEach [] X.env := by rfl)
    (hns : NoSl (.Constant (.str kx) jk p3) := by intro _ _; rfl)
    (hpe : ∀ {te : TE} {t : TA}, PE X (.Subscript (.Name x p1) (.Constant (.str kx) jk p3) p2) te → PA X [e] t → PE X (.Call (.Attribute (.Subscript (.Name x p1) (.Constant (.str kx) jk p3) p2) "append" apos) [e] [] cpos) (tBM X.K "list" rAppend te t) := by exact fun h g => pe_bm PySem.F.plainAttrs_list PySem.F.slot_list_append PySem.F.type_list_append mt_append h g)
    (hs : swapsWith (.Call (.Attribute (.Subscript (.Name x p1) (.Constant (.str kx) jk p3) p2) "append" apos) [e] [] cpos) none pos.line X.env = pure false := by rfl) : XS X b (.Expr (.Call (.Attribute (.Subscript (.Name x p1) (.Constant (.str kx) jk p3) p2) "append" apos) [e] [] cpos) pos) (sAppH i j kx Ta) := by
  obtain ⟨_, h1, h2⟩ := ha
  refine ⟨_, ps_expr (hpe (pe_dget (by omega) (pe_var hN hvi hd hcd) pe_str hns) (pa_cons h1 pa_nil he)) hs, fun {Fm F0 H0 F H σ γ} E n t D k => ?_⟩
  unfold sAppH at t
  have hi := n.slot i
  have hj := n.slot j
  cases ei : gat γ i with
  | un => rw [ei] at t; exact t.elim
  | val d => rw [ei] at t; exact t.elim
  | own l d => rw [ei] at t; exact t.elim
  | hid l d => rw [ei] at t; exact t.elim
  | obj l d =>
    cases ej : gat γ j with
    | un => rw [ei, ej] at t; exact t.elim
    | val d => rw [ei, ej] at t; exact t.elim
    | own l d => rw [ei, ej] at t; exact t.elim
    | obj l d => rw [ei, ej] at t; exact t.elim
    | hid m xs =>
      rw [ei, ej] at t
      rw [ei] at hi
      rw [ej] at hj
      cases d <;> first | exact t.elim | skip
      rename_i kvs
      obtain ⟨hk, t⟩ := t
      obtain ⟨u, a1, a2, a3, a4, a5, a6⟩ := hi
      obtain ⟨ws, g2, g3, g4, g5, g6⟩ := hj
      cases a3 with
      | @dK vs _ r =>
        obtain ⟨w, hw, rw_⟩ := r.look hk
        cases rw_
        refine ⟨_, a1, l, .ref m, rfl, ?_, Or.inl ⟨rfl, ws, SqL.of g2⟩, h2 _ n t _ fun v d F' H' x r' p => ?_⟩
        · have := DGet.k (k := Sum.inr kx) a2
          rw [valV_keys, hw] at this
          exact this
        · refine ⟨m, ws, v, rfl, rfl, x.keep _ _ g6 g2 .lst, ?_, k.nx ((n.to x).wrG (x.keep _ _ g6 g2 .lst) .lst (fun _ z => by cases z) (i := j) (l := m) (s := .hid m (xs ++ [d])) (by rw [ej]; rfl) (by rw [x.new _ _ g2 .lst]; exact g4) g5 g6 rfl ⟨ws ++ [v], upd_same, (g3.mono x.grow).append (.cons r' .nil), by rw [x.new _ _ g2 .lst]; exact g4, g5, g6⟩) p.2⟩
          exact Nat.lt_of_le_of_lt (show ws.length ≤ 100000 by rw [g3.length]; omega) (by decide)
/-- from here on the dict's entry holds the list itself -/
@[reducible] def sRes (i j : Nat) (T : DSt) : DSt := fun E γ => match gat γ i, gat γ j with
  | .obj l o, .hid m xs => (match o with | .dK kvs => T E (gset (gset γ i (.obj l (.dK (resK m xs kvs)))) j .un) | _ => False)
  | _, _ => False
theorem DS.res {ts : TS} {T : DSt} (i j : Nat) (h : DS b ts T) : DS b ts (sRes i j T) := fun {Fm F0 H0 F H σ γ} E n t D k => by
  unfold sRes at t
  cases ei : gat γ i with
  | un => rw [ei] at t; exact t.elim
  | val d => rw [ei] at t; exact t.elim
  | own l d => rw [ei] at t; exact t.elim
  | hid l d => rw [ei] at t; exact t.elim
  | obj l d =>
    cases ej : gat γ j with
    | un => rw [ei, ej] at t; exact t.elim
    | val d => rw [ei, ej] at t; exact t.elim
    | own l d => rw [ei, ej] at t; exact t.elim
    | obj l d => rw [ei, ej] at t; exact t.elim
    | hid m xs =>
      rw [ei, ej] at t
      cases d <;> first | exact t.elim | skip
      obtain ⟨F', n'⟩ := n.resolve ei ej
      exact h E n' t D k
theorem ss_res {st : List Stmt} (i j : Nat) (h : XSs X b st T) : XSs X b st (sRes i j T) := by
  obtain ⟨_, h1, h2⟩ := h
  exact ⟨_, h1, h2.res i j⟩
end
end DL

namespace DL
open PySem PySem.Spec PyProof.Rows L2
section
variable {X : Cx} {b : Bg} {e e1 e2 e3 e4 o tg : Expr} {es : List Expr} {pos : Pos} {K : PySem.W.Frag} {Fx : Hp}
/-- a statement that is never come to -/
@[reducible] def sNever : DSt := fun _ _ => False
theorem s_never {st : Stmt} : XS X b st sNever := ⟨fun _ _ _ => False, ⟨fun _ _ _ _ _ _ h => h.elim⟩, fun _ _ t _ _ => t.elim⟩
/-- min(m, n) -/
@[reducible] def bMin2 : DSp := fun ds P => match ds with | [.int i, .int j] => P (.int (if j < i then j else i)) | _ => False
theorem x_min2 {p : Pos} (hc : X.calm = true) (hg : Gl X "min") (hm : X.mg "min" = none) (ha : XA X b [e1, e2] Ta) (he : starEach [e1, e2] X.env = (false, eval e1 X.env) :: starEach [e2] X.env := by rfl) (hpl : (backTo pos (starEach [e2] X.env)).any (·.1) = false := by rfl) : XE X b (.Call (.Name "min" p) [e1, e2] [] pos) (dBi bMin2 Ta) := by
  obtain ⟨_, h1, h2⟩ := ha
  refine ⟨_, pe_callB (call_min2 hc) hg hm (by decide +kernel) h1 (he := he) (hpl := hpl), de_cb (fun {F H vs ds} P k r t Q q => ?_) h2⟩
  cases r with
  | nil => exact t.elim
  | cons r1 r2 =>
    cases r2 with
    | nil => cases r1 <;> exact t.elim
    | cons r2 r3 =>
      cases r3 with
      | cons _ _ => cases r1 <;> cases r2 <;> exact t.elim
      | nil =>
        cases r1 <;> cases r2 <;> first | exact t.elim | skip
        exact ⟨_, _, rfl, q _ _ F H (Ext.refl k) (.int _) t⟩
/-- a slice of a tuple -/
theorem x_slT {lo hi : Option Expr} {p2 : Pos} (ha : XE X b e Ta) (hl : XO X b lo Tl) (hh : XO X b hi Th) : XE X b (.Subscript e (.Slice lo hi none p2) pos) (fun γ P => Ta γ fun x => Tl γ fun lo => Th γ fun hi => match x with | .tup z => P (.tup (cutD z lo hi)) | _ => False) := by
  obtain ⟨_, h1, h2⟩ := ha; obtain ⟨_, g1, g2⟩ := hl; obtain ⟨_, f1, f2⟩ := hh
  refine ⟨_, pe_slice sl_tupA h1 g1 f1, fun P n t Q q => h2 _ n t _ fun v d F1 H1 x1 r1 t1 => g2 _ (n.to x1) t1 _ fun o F2 H2 x2 t2 => f2 _ (n.to (x1.trans x2)) t2 _ fun u F3 H3 x3 t3 => ?_⟩
  cases r1 <;> first | exact t3.elim | skip
  rename_i vs xs h r
  have y := (x1.trans x2).trans x3
  have g := (x2.trans x3).grow
  refine ⟨_, vs, rfl, SqT.of (y.sub _ _ (g _ _ h)), fun hq => ?_, fun _ p hp => ?_⟩
  · have ec : cutD xs o u = xs := by
      rw [r.length] at hq
      unfold cutD
      rw [hq.1, hq.2, Nat.sub_zero, List.drop_zero, List.take_length]
    have t4 : P (.tup (cutD xs o u)) := t3
    rw [ec] at t4
    exact q _ _ F3 H3 y (.tup (g _ _ h) (r.mono g)) t4
  · exact q _ _ _ _ (y.trans (Ext.push y.ok hp)) (.tup upd_same ((cut_rep r).mono (g.trans (Ext.push y.ok hp).grow))) t3
/-- tuple + tuple -/
@[reducible] def vAddT (x y : Dt) (P : Dt → Prop) : Prop := match x, y with | .tup u, .tup z => u.length + z.length ≤ 100000 ∧ P (.tup (u ++ z)) | _, _ => False
theorem x_addT (ha : XE X b e1 Ta) (hb : XE X b e2 Tb) : XE X b (.BinOp e1 .Add e2 pos) (d2 vAddT Ta Tb) := by
  obtain ⟨_, h1, h2⟩ := ha; obtain ⟨_, g1, g2⟩ := hb
  refine ⟨_, pe_op op_catA h1 g1, de_op (fun {F H x y d e} P k r1 r2 t Q q => ?_) h2 g2⟩
  cases r1 <;> cases r2 <;> first | exact t.elim | skip
  rename_i us u h1 r1 _ ws z h2 r2
  refine ⟨_, _, us, ws, rfl, rfl, SqT.of (k.1 _ _ h1), SqT.of (k.1 _ _ h2), Nat.le_trans (by rw [r1.length, r2.length]; exact t.1) (by decide), fun eu => ?_, fun _ ew => ?_, fun _ _ p hp => ?_⟩
  · subst eu
    cases r1
    exact q _ _ F H (Ext.refl k) (.tup h2 r2) t.2
  · subst ew
    cases r2
    have t2 := t.2
    rw [List.append_nil] at t2
    exact q _ _ F H (Ext.refl k) (.tup h1 r1) t2
  · exact q _ _ _ _ (Ext.push k hp) (.tup upd_same ((r1.append r2).mono (Ext.push k hp).grow)) t.2
/-- x.insert(i, e) of a list of one's own -/
@[reducible] def sIns (i : Nat) (Ta : DAt) : DSt := fun E γ => match gat γ i with
  | .own l xs => Ta γ fun ds => (match ds with | [.int j, d] => xs.length < 100000 ∧ 0 ≤ j ∧ j < 2 ^ 63 ∧ E.nx (gset γ i (.own l (xs.take j.toNat ++ [d] ++ xs.drop j.toNat))) | _ => False)
  | _ => False
theorem s_ins (i : Nat) {x : Str} {p1 apos p2 : Pos} (ha : XA X b [e1, e2] Ta) (hN : X.N[i]? = some x := by rfl) (hv : Vis X.env.scope x := by first | exact Or.inl rfl | exact Or.inr (Or.inl rfl) | exact Or.inr (Or.inr rfl)) (hd : (x == ("__debug__" : Str)) = false := by decide)
    (hcd : (x == ("__classdict__" : Str)) = false := by decide)
    (hpe : ∀ {te : TE} {t : TA}, PE X (.Name x p1) te → PA X [e1, e2] t → PE X (.Call (.Attribute (.Name x p1) "insert" apos) [e1, e2] [] p2) (tBM X.K "list" (fun x vs H Q => ∃ (l : Addr) (xs : List V) (i : Int) (y : V), x = .ref l ∧ vs = [.int i, y] ∧ H l = some (.lst xs) ∧ xs.length < sizeLine ∧ 0 ≤ i ∧ i < 2 ^ 63 ∧ Q .non (upd H l (.lst (xs.take i.toNat ++ [y] ++ xs.drop i.toNat)))) te t) := by exact fun h g => pe_bm PySem.F.plainAttrs_list PySem.F.slot_list_insert PySem.F.type_list_insert mt_insert h g)
    (hs : swapsWith (.Call (.Attribute (.Name x p1) "insert" apos) [e1, e2] [] p2) none pos.line X.env = pure false := by rfl) : XS X b (.Expr (.Call (.Attribute (.Name x p1) "insert" apos) [e1, e2] [] p2) pos) (sIns i Ta) := by
  obtain ⟨_, h1, h2⟩ := ha
  refine ⟨_, ps_expr (hpe (pe_var hN hv hd hcd) h1) hs, fun {Fm F0 H0 F H σ γ} E n t D k => ?_⟩
  unfold sIns at t
  have hi := n.slot i
  cases e : gat γ i with
  | un => rw [e] at t; exact t.elim
  | val d => rw [e] at t; exact t.elim
  | obj l d => rw [e] at t; exact t.elim
  | hid l d => rw [e] at t; exact t.elim
  | own l xs =>
    rw [e] at hi t
    obtain ⟨vs, a1, a2, a3, a4, a5, a6⟩ := hi
    refine ⟨_, a1, Or.inl ⟨rfl, vs, SqL.of a2⟩, h2 _ n t _ fun ws ds F' H' x r p => ?_⟩
    cases r with
    | nil => exact p.elim
    | cons r1 r2 =>
      cases r2 with
      | nil => cases r1 <;> exact p.elim
      | cons r2 r3 =>
        cases r3 with
        | cons _ _ => cases r1 <;> exact p.elim
        | nil =>
          cases r1 <;> first | exact p.elim | skip
          obtain ⟨p0, p1, p2, p3⟩ := p
          refine ⟨l, vs, _, _, rfl, rfl, x.keep _ _ a6 a2 .lst, Nat.lt_of_le_of_lt (show vs.length ≤ 100000 by rw [a3.length]; omega) (by decide), p1, p2, k.nx ((n.to x).wr e ((((a3.mono x.grow).take _).append (.cons r2 .nil)).append ((a3.mono x.grow).drop _))) p3⟩
/-- C.f, an int that is a constant of the class -/
theorem x_clsi {C : Addr} {mc : Value} {x f : Str} {p1 : Pos} {i : Int} {tk : Tok} (hg : Gl X x) (hm : X.mg x = some (.ref C)) (r : ClX.CRead X.K C mc) (c : ClX.CVal X.K C mc f (.int i) (.int i tk)) (hd : (x == ("__debug__" : Str)) = false := by decide)
    (hp : ∀ {te : TE}, PE X (.Name x p1) te → PE X (.Attribute (.Name x p1) f pos) (ClX.tCVal X.K te f) := by exact fun h => ClX.pe_cval h rfl) : XE X b (.Attribute (.Name x p1) f pos) (dC (.int i)) :=
  ⟨_, hp (pe_glob (v := .ref C) hg hm rfl hd), fun P n t Q q => ⟨C, mc, _, _, rfl, r, c, q _ _ _ _ (Ext.refl n.ok) (.int _) t⟩⟩
end
end DL

namespace ZN
open PySem PySem.Spec PyProof.Rows L2
/-! zip of tuples and lists of one length, by their names; any target -/
section
variable {prog : Program} {w : World} {A : Around} {E : Value → Shared → Prop} {s : Shared} {B n k : Nat} {ls : Nat → Bool × Addr}
theorem letGoN {tg : Expr} {T : Addr} {Q : Unit → Shared → Prop} (z : ZipAt B n k ls s.heap) (hQ : ∀ h', ZipAt B n k ls h' → Heap.ExtBut (B + n + 2) s.heap h' → h'.objs.size = s.heap.objs.size → Q () { s with heap := h' }) :
    wpAny (model prog w) A (letOwnedTupleGo tg (.ref (B + n + 2)) (.ref T)) Q E s := by
  have same : Q () s := hQ s.heap z (fun _ _ _ e => e) rfl
  obtain ⟨⟨f0, f1, hf, hz⟩, ti, to, its⟩ := z
  have core : wpAny (model prog w) A (setField (.ref (B + n + 2)) 0 .none) Q E s := by
    refine wpAny_setField_rec hz (by simp) fun h' hz' hs' => hQ h' ⟨⟨.none, f1, .inl rfl, hz'⟩, ?_, ?_, ?_⟩ hs'.extBut hs'.1
    · exact hs'.extBut _ _ (ne_add (by omega)) ti
    · obtain ⟨arr, a1, a2⟩ := to
      exact ⟨arr, a1, hs'.extBut _ _ (ne_add (by omega)) a2⟩
    · exact fun i hi => (its i hi).extBut hs'.extBut (ne_add (by omega))
  unfold letOwnedTupleGo
  cases tg <;> first
    | exact wpAny_pure same
    | (refine wpAny_bind (wpAny_load hz ?_)
       dsimp only
       split
       · exact wpAny_bind (wpAny_rule core)
       · exact wpAny_pure same)
end
theorem turn_zipM {P : Program} {w : World} {K : PySem.W.Frag} {tg : Expr} {as : List (Bool × Addr)} {rows : List (List V)} {m B : Nat} (hl : as.length = rows.length) (h0 : 0 < rows.length) (h1 : rows.length ≤ 100000) (hm : ∀ (j : Nat) (xs : List V), rows[j]? = some xs → xs.length = m) (hB : ∀ j, j < rows.length → (as.getD j (false, 0)).2 < B) :
    Turn P w K tg (ItN K as rows m) (fps B rows.length) (B + rows.length + 2) (fun i h => ZipAt B rows.length i (fun j => as.getD j (false, 0)) h) where
  mem := (turn_zipN (P := P) (w := w) (K := K) (x := "x") (tpos := ⟨0, 0, 0, 0⟩) hl h0 h1 hm hB).mem
  obj := (turn_zipN (P := P) (w := w) (K := K) (x := "x") (tpos := ⟨0, 0, 0, 0⟩) hl h0 h1 hm hB).obj
  keep := (turn_zipN (P := P) (w := w) (K := K) (x := "x") (tpos := ⟨0, 0, 0, 0⟩) hl h0 h1 hm hB).keep
  done := (turn_zipN (P := P) (w := w) (K := K) (x := "x") (tpos := ⟨0, 0, 0, 0⟩) hl h0 h1 hm hB).done
  self := fun A i s Q E st h => self_zip st h
  item := by
    intro X hP hw hK hc i pins s σ H E I hf st hg
    subst hP hw hK
    have hg' := hg
    obtain ⟨hi, hq⟩ := hg'
    obtain ⟨its, hits⟩ := rows_at I hl hq
    have hlen : ∀ j, j < rows.length → (its j).length = m := fun j hj => by
      rw [← (hits j hj).1.length, List.getD_eq_getElem?_getD, List.getElem?_eq_getElem hj]
      exact hm j _ (List.getElem?_eq_getElem hj)
    have hx : ∀ j, j < rows.length → (its j).toArray[i]? = some ((its j).getD i .none) := fun j hj => by
      have := hlen j hj
      rw [List.getElem?_toArray, List.getD_eq_getElem?_getD, List.getElem?_eq_getElem (by omega)] <;> rfl
    refine pyNext_item h0 h1 st (fun j hj => (hits j hj).2) hB hx fun h₁ z₁ hT₁ hsz₁ hk₁ => ?_
    refine ⟨_, rfl, letGoN (s := { s with heap := h₁ }) z₁ fun h' z' ex hsz' => ?_⟩
    have hzl : B + rows.length + 2 < s.heap.objs.size := by
      obtain ⟨_, _, _, hz⟩ := st.z
      exact Heap.lt_size hz
    have hT : h'.get? s.heap.objs.size = some { cls := .type "tuple", data := .seq ((List.range rows.length).map fun j => (its j).getD i .none).toArray } := ex _ _ (Nat.ne_of_gt hzl) hT₁
    have hk : ∀ c o, c < B ∨ B + rows.length + 2 < c → s.heap.get? c = some o → h'.get? c = some o := fun c o hc e => ex _ _ (by rintro rfl; omega) (hk₁ c o hc e)
    have new : ObjOk X.prog X.w (upd H s.heap.objs.size (.tup (rows.map fun xs => xs.getD i .non))) h' s.heap.objs.size (.tup (rows.map fun xs => xs.getD i .non)) := by
      refine ⟨by rw [List.length_map]; show _ ≤ 2 ^ 24; omega, _, vals_map (g := fun j => (its j).getD i .none) fun j xs hj => ?_, ⟨_, hT, rfl, _, rfl⟩⟩
      have hjl : j < rows.length := (List.getElem?_eq_some_iff.mp hj).1
      have rv := (hits j hjl).1
      rw [List.getD_eq_getElem?_getD, hj] at rv
      have hi2 : i < xs.length := by rw [hm j xs hj]; exact hi
      obtain ⟨u, hu, ru⟩ := Vals.get rv (List.getElem?_eq_getElem hi2)
      rw [List.getD_eq_getElem?_getD, List.getElem?_eq_getElem hi2, List.getD_eq_getElem?_getD, hu]
      exact ru
    have I1 : Inv X pins σ (upd H s.heap.objs.size (.tup (rows.map fun xs => xs.getD i .non))) { s with heap := h' } :=
      I.turnedNew (t' := s.toks) (ch := fps B rows.length) (fun c o hb q => hk c o (fps_out hb) q) hf (Nat.le_refl _) new
    refine ⟨.ref s.heap.objs.size, _, I1, rfl, ⟨_, rfl, I.hok.fresh (Nat.le_refl _), rfl⟩, z', fun c hcm => ?_⟩
    rw [upd_ne (Nat.ne_of_lt (fps_lt hcm hzl))]
    exact (hf c hcm).1
/-- zip(a, c, ..) -/
def iZipM (K : PySem.W.Frag) (ta : TA) : TI := fun σ H R => ta σ H fun vs H1 => ∃ (as : List (Bool × Addr)) (rows : List (List V)) (m : Nat), vs = (as.map fun a => V.ref a.2) ∧ as.length = rows.length ∧ 0 < rows.length ∧ rows.length ≤ 100000 ∧ (∀ (j : Nat) (xs : List V), rows[j]? = some xs → xs.length = m) ∧
  (∀ (j : Nat) (a : Bool × Addr) (xs : List V), as[j]? = some a → rows[j]? = some xs → SqB K H1 a xs) ∧ R (ItN K as rows m) H1
theorem pi_zipM {X : Cx} {e : Expr} {es : List Expr} {ta : TA} {p pos : Pos} {tg : Expr} (hg : Gl X "zip") (hm : X.mg "zip" = none) (ha : PA X (e :: es) ta)
    (hs : starEach (e :: es) X.env = (false, eval e X.env) :: starEach es X.env := by rfl) (hpl : (backTo pos (starEach es X.env)).any (·.1) = false := by rfl) :
    PI X tg (.Call (.Name "zip" p) (e :: es) [] pos) (iZipM X.K ta) := by
  refine ⟨fun pins s σ H R I h => ?_⟩
  refine Call_ (ld_blt I hg hm PyProof.Rows.boot_zip (PyProof.Rows.callWith_type1 (thn (ha.run pos pins s σ H _ I h) fun us s1 ⟨vs, H1, I1, r1, q1⟩ => ?_) hs hpl))
  obtain ⟨as, rows, m, ev, hl, h0, h1, h2, h3, q⟩ := q1
  subst ev
  rw [refs_vals r1, addrs_eq, hl]
  obtain ⟨its, hits⟩ := rows_at I1 hl h3
  have hB : ∀ j, j < rows.length → (as.getD j (false, 0)).2 < s1.heap.objs.size := fun j hj => by
    obtain ⟨o, ho⟩ := (hits j hj).2.there
    exact Heap.lt_size ho
  refine call_zipN h0 h1 (fun j hj => (hits j hj).2) fun h' z k => self_zip (s := { s1 with heap := h' }) z ?_
  refine ⟨s1.heap.objs.size + rows.length + 2, fps s1.heap.objs.size rows.length, _, _, H1, rfl, I1.kept (t' := s1.toks) k, turn_zipM hl h0 h1 h2 hB, z, fun b hb => ?_, q⟩
  have hle := (mem_fps.mp hb).1
  exact I1.fpOk hle (I1.hok.fresh hle)
end ZN
namespace TM
open PySem PySem.Spec PyProof.Rows L2
/-! tuple * 0, tuple * 1 -/
theorem mul_one (l : Addr) (its : Array Value) (n : Nat) (dd : Option Addr) (sl : Array (Option Value)) (u : Tok) :
    Meets (Builtin.«tuple.__mul__» ⟨[.ref l, .int 1 u], []⟩) (fun _ R s => s.heap.get? l = some { cls := .type "tuple", dict := dd, data := .seq its n, slots := sl } ∧ R (.ok (.ret (Value.ref l))) s) :=
  .of_wp fun prog w A R s h => by
    obtain ⟨hp, g, d, tk, os⟩ := s
    obtain ⟨hl, h⟩ := h
    have f1 := AutoSeq1.idx_int
    wp_walk using wpAny_loadPart' hl
    repeat (first
      | (refine wpAny_ite_false (by decide) ?_; wp_walk using wpAny_loadPart' hl)
      | (refine wpAny_ite_true (by simp) ?_; wp_walk using wpAny_loadPart' hl))
    exact ⟨_, rfl, h⟩
theorem mul_nil (l : Addr) (its : Array Value) (n : Nat) (dd : Option Addr) (sl : Array (Option Value)) (u : Tok) (c1 : its.isEmpty = false) :
    Meets (Builtin.«tuple.__mul__» ⟨[.ref l, .int 0 u], []⟩) (fun _ R s => s.heap.get? l = some { cls := .type "tuple", dict := dd, data := .seq its n, slots := sl } ∧
      R (.ok (.ret (Value.ref s.heap.objs.size))) { s with heap := s.heap.push { cls := Value.type "tuple", data := Data.seq #[] }, toks := s.toks }) :=
  .of_wp fun prog w A R s h => by
    obtain ⟨hp, g, d, tk, os⟩ := s
    obtain ⟨hl, h⟩ := h
    have f1 := AutoSeq1.idx_int
    wp_walk using wpAny_loadPart' hl
    repeat (first
      | (refine wpAny_ite_false (by decide) ?_; wp_walk using wpAny_loadPart' hl)
      | (refine wpAny_ite_false (by rw [c1]; decide) ?_; wp_walk using wpAny_loadPart' hl)
      | (refine wpAny_ite_true (by simp) ?_; wp_walk using wpAny_loadPart' hl))
    exact ⟨_, rfl, h⟩
end TM

namespace DL
open PySem PySem.Spec PyProof.Rows L2 ZN
section
variable {X : Cx} {b : Bg} {e e1 e2 e3 tg : Expr} {es : List Expr} {pos : Pos} {K : PySem.W.Frag} {Fx : Hp}
/-! great numbers -/
theorem x_mulW (ha : XE X b e1 Ta) (hb : XE X b e2 Tb) : XE X b (.BinOp e1 .Mult e2 pos) (d2 (vIntC CMulW fun i j => i * j) Ta Tb) := by
  obtain ⟨_, h1, h2⟩ := ha; obtain ⟨_, g1, g2⟩ := hb
  exact ⟨_, pe_op op_mulW h1 g1, de_op (d2_I fun i j _ => .int _) h2 g2⟩
theorem x_fdivW (ha : XE X b e1 Ta) (hb : XE X b e2 Tb) : XE X b (.BinOp e1 .FloorDiv e2 pos) (d2 (vIntC CDivW fun i j => i / j) Ta Tb) := by
  obtain ⟨_, h1, h2⟩ := ha; obtain ⟨_, g1, g2⟩ := hb
  exact ⟨_, pe_op op_fdivW h1 g1, de_op (d2_I fun i j _ => .int _) h2 g2⟩
/-! two ints to an int -/
@[reducible] def b2I (f : Int → Int → Int) : DSp := fun ds P => match ds with | [.int i, .int j] => P (.int (f i j)) | _ => False
theorem dcr_2I {f : Int → Int → Int} {r : List V → Hp → VK → Prop} (h : ∀ i j H Q, Q (.int (f i j)) H → r [.int i, .int j] H Q) : DCr b r (b2I f) := fun {F H vs ds} P k r t Q q => by
  cases r with
  | nil => exact t.elim
  | cons r1 r2 =>
    cases r2 with
    | nil => cases r1 <;> exact t.elim
    | cons r2 r3 =>
      cases r3 with
      | cons _ _ => cases r1 <;> cases r2 <;> exact t.elim
      | nil =>
        cases r1 <;> cases r2 <;> first | exact t.elim | skip
        exact h _ _ _ _ (q _ _ F H (Ext.refl k) (.int _) t)
theorem x_gcd {p : Pos} (hg : Gl X "gcd") (hm : X.mg "gcd" = some (.builtin "math.gcd")) (ha : XA X b [e1, e2] Ta) (he : starEach [e1, e2] X.env = (false, eval e1 X.env) :: starEach [e2] X.env := by rfl) (hpl : (backTo pos (starEach [e2] X.env)).any (·.1) = false := by rfl) : XE X b (.Call (.Name "gcd" p) [e1, e2] [] pos) (dBi (b2I fun i j => ((Nat.gcd i.natAbs j.natAbs : Nat) : Int)) Ta) := by
  obtain ⟨_, h1, h2⟩ := ha
  exact ⟨_, pe_callBfun cr_gcd hg hm h1 (he := he) (hpl := hpl), de_cb (dcr_2I fun i j H Q q => ⟨i, j, rfl, q⟩) h2⟩
theorem x_max2 {p : Pos} (hc : X.calm = true) (hg : Gl X "max") (hm : X.mg "max" = none) (ha : XA X b [e1, e2] Ta) (he : starEach [e1, e2] X.env = (false, eval e1 X.env) :: starEach [e2] X.env := by rfl) (hpl : (backTo pos (starEach [e2] X.env)).any (·.1) = false := by rfl) : XE X b (.Call (.Name "max" p) [e1, e2] [] pos) (dBi (b2I fun i j => if j > i then j else i) Ta) := by
  obtain ⟨_, h1, h2⟩ := ha
  refine ⟨_, pe_callB (call_max2 hc) hg hm (by decide +kernel) h1 (he := he) (hpl := hpl), ?_⟩
  exact de_cb (dcr_2I (f := fun i j => if j > i then j else i) (r := fun xs H Q => ∃ i j, xs = [.int i, .int j] ∧ Q (.int (if j > i then j else i)) H) fun i j H Q q => ⟨i, j, rfl, q⟩) h2
@[reducible] def bAbs : DSp := fun ds P => match ds with | [.int i] => P (.int (if i < 0 then -i else i)) | _ => False
theorem x_abs {p : Pos} (hg : Gl X "abs") (hm : X.mg "abs" = none) (ha : XA X b [e] Ta) (he : starEach [e] X.env = (false, eval e X.env) :: starEach [] X.env := by rfl) (hpl : (backTo pos (starEach [] X.env)).any (·.1) = false := by rfl) : XE X b (.Call (.Name "abs" p) [e] [] pos) (dBi bAbs Ta) := by
  obtain ⟨_, h1, h2⟩ := ha
  refine ⟨_, pe_callB call_abs hg hm (by decide +kernel) h1 (he := he) (hpl := hpl), de_cb (fun {F H vs ds} P k r t Q q => ?_) h2⟩
  cases r with
  | nil => exact t.elim
  | cons r1 r2 =>
    cases r2 with
    | cons _ _ => cases r1 <;> exact t.elim
    | nil =>
      cases r1 <;> first | exact t.elim | skip
      exact ⟨_, rfl, q _ _ F H (Ext.refl k) (.int _) t⟩
/-! for i in reversed(range(n)) -/
def rvD (n : Nat) : List Dt := (List.range n).map fun i => .int ((n : Int) - 1 - (i : Nat))
theorem rvD_len (n : Nat) : (rvD n).length = n := by unfold rvD; simp
theorem rvD_at {n i : Nat} {d : Dt} (h : (rvD n)[i]? = some d) : i < n ∧ d = .int ((n : Int) - 1 - (i : Nat)) := by
  have hi : i < n := by have := (List.getElem?_eq_some_iff.mp h).1; rw [rvD_len] at this; exact this
  unfold rvD at h
  rw [List.getElem?_map, List.getElem?_range hi] at h
  exact ⟨hi, (Option.some.inj h).symm⟩
theorem walkd_rv {n : Nat} {lo : Int} (hlo : lo = (n : Int) - 1) : WalkD b (Itc lo (-1) n) Fx (rvD n) := by
  refine ⟨YFn fun i => .int (lo + (i : Nat) * (-1)), ?_, fun i H x H' hi y => ?_⟩
  · rw [rvD_len]
    exact (walk_rangeC (lo := lo) (c := -1) (n := n)).mono (fun _ _ => trivial) (fun _ _ _ _ _ _ y => y)
  rw [rvD_len] at hi
  obtain ⟨e1, e2⟩ := y
  refine ⟨.int ((n : Int) - 1 - (i : Nat)), ?_, .inl ⟨e1, ?_⟩⟩
  · unfold rvD
    rw [List.getElem?_map, List.getElem?_range hi] <;> rfl
  · have e3 : x = .int (lo + (i : Nat) * (-1)) := e2
    rw [e3, hlo, show ((n : Int) - 1 + (i : Nat) * (-1)) = (n : Int) - 1 - (i : Nat) by omega]
    exact .int _
@[reducible] def iRv (Ta : DT) : DAt := fun γ P => Ta γ fun d => match d with | .int j => -100000 ≤ j ∧ j ≤ 100000 ∧ P (rvD j.toNat) | _ => False
theorem i_rv {p p2 pos2 : Pos} (hg : Gl X "reversed") (hm : X.mg "reversed" = none) (hg2 : Gl X "range") (hm2 : X.mg "range" = none) (ha : XE X b e Ta)
    (hs : starEach [.Call (.Name "range" p2) [e] [] pos2] X.env = (false, eval (.Call (.Name "range" p2) [e] [] pos2) X.env) :: starEach [] X.env := by rfl) (hs2 : starEach [e] X.env = [(false, eval e X.env)] := by rfl) :
    XI X b tg (.Call (.Name "reversed" p) [.Call (.Name "range" p2) [e] [] pos2] [] pos) (iRv Ta) := by
  obtain ⟨_, h1, h2⟩ := ha
  refine ⟨_, pi_revR hg hm (prg_1 hg2 hm2 h1 hs2) hs, fun P n t R q => h2 _ n t _ fun v d F1 H1 x1 r1 t1 => ?_⟩
  cases r1 <;> first | exact t1.elim | skip
  rename_i j
  obtain ⟨a1, a2, t1⟩ := t1
  refine ⟨j, rfl, by omega, by omega, by omega, by omega, ?_⟩
  have e0 : (j - 0).toNat = j.toNat := by rw [Int.sub_zero]
  rw [e0]
  exact q _ _ F1 H1 x1 (walkd_rv (by omega)) t1
/-! while -/
@[reducible] def sWh (A : DBt) (Tb : DSt) : DSt := fun E γ => Word (∃ Iv : Nat → Gm → Prop, (∃ m, Iv m γ) ∧ ∀ m γ', Iv m γ' → A γ' fun c => (match c with | true => Tb { E with nx := fun γ2 => ∃ m', m' < m ∧ Iv m' γ2, ct := fun γ2 => ∃ m', m' < m ∧ Iv m' γ2, bk := E.nx } γ' | false => E.nx γ'))
theorem s_while {c : Expr} {body : List Stmt} {A : DBt} {Tb : DSt} (hc : XT X b c A) (h : XSs X b body Tb) (hp : PassesOwn (model X.prog X.w) X.A X.env X.xe := by exact PassesOwn.never) : XS X b (.While c body [] pos) (sWh A Tb) := by
  obtain ⟨_, c1, c2⟩ := hc; obtain ⟨_, h1, h2⟩ := h
  refine ⟨_, ps_while hp c1 h1, fun {Fm F0 H0 F H σ γ} E n t D k => ?_⟩
  obtain ⟨Iv, ⟨m0, i0⟩, is⟩ := t
  refine ⟨fun m σ' H' => ∃ F' γ', Nv b Fm F0 H0 F' H' σ' γ' ∧ Iv m γ', ⟨m0, F, γ, n, i0⟩, ?_⟩
  rintro m σ' H' ⟨F', γ', n', p⟩
  refine c2 _ n' (is m γ' p) _ fun c F2 H2 x2 t2 => ?_
  cases c with
  | false => exact iteF (k.nx (n'.to x2) t2)
  | true =>
    refine iteT ⟨fun σ3 H3 => ∃ m', m' < m ∧ ∃ F3 γ3, Nv b Fm F0 H0 F3 H3 σ3 γ3 ∧ Iv m' γ3, fun σ3 H3 ⟨m', l, r⟩ => ⟨m', l, r⟩, h2 _ (n'.to x2) t2 _ ⟨?_, ?_, ?_, ?_⟩⟩
    · rintro F3 H3 σ3 γ3 n3 ⟨m', l, r⟩
      exact ⟨m', l, _, _, n3, r⟩
    · intro F3 H3 σ3 γ3 v d n3 r3 p3
      exact k.rt n3 r3 p3
    · intro F3 H3 σ3 γ3 n3 p3
      exact k.nx n3 p3
    · rintro F3 H3 σ3 γ3 n3 ⟨m', l, r⟩
      exact ⟨m', l, _, _, n3, r⟩
/-! y = xs.pop(k), xs a list of one's own -/
theorem RepL.erase {F : Hp} : ∀ {xs : List Dt} {vs : List V} (n : Nat), RepL b F vs xs → RepL b F (vs.eraseIdx n) (xs.eraseIdx n)
  | _, _, _, .nil => .nil
  | _, _, 0, .cons _ t => t
  | _, _, n + 1, .cons r t => .cons r (RepL.erase n t)
@[reducible] def sPop (i j : Nat) (Ta : DT) : DSt := fun E γ => match gat γ i with
  | .own l xs => (Ta γ fun d => match d with | .int k => ∃ n y, ixN xs.length k = some n ∧ xs[n]? = some y ∧ -(2 ^ 63) ≤ k ∧ k < 2 ^ 63 ∧ E.nx (gset (gset γ i (.own l (xs.eraseIdx n))) j (.val y)) | _ => False)
  | _ => False
theorem s_pop (i j : Nat) {x y : Str} {p1 p2 p3 apos : Pos} (hN : X.N.Nodup) (hj : X.N[j]? = some y) (hy : Loc X.env.scope y) (ha : XE X b e Ta) (hN2 : X.N[i]? = some x := by rfl) (hv : Vis X.env.scope x := by first | exact Or.inl rfl | exact Or.inr (Or.inl rfl) | exact Or.inr (Or.inr rfl)) (hd : (x == ("__debug__" : Str)) = false := by decide)
    (hcd : (x == ("__classdict__" : Str)) = false := by decide) (he : starEach [e] X.env = (false, eval e X.env) :: starEach [] X.env := by rfl)
    (hpe : ∀ {te : TE} {t : TA}, PE X (.Name x p1) te → PA X [e] t → PE X (.Call (.Attribute (.Name x p1) "pop" apos) [e] [] p2) (tBM X.K "list" (fun x vs H Q => ∃ (l : Addr) (xs : List V) (i : Int) (k : Nat) (y : V), x = .ref l ∧ vs = [.int i] ∧ H l = some (.lst xs) ∧ -(2 ^ 63) ≤ i ∧ i < 2 ^ 63 ∧ seqIndex? i xs.length = some k ∧ xs[k]? = some y ∧ Q y (upd H l (.lst (xs.eraseIdx k)))) te t) := by exact fun h g => pe_bm PySem.F.plainAttrs_list PySem.F.slot_list_pop PySem.F.type_list_pop mt_popAt h g)
    (hs : swapsWith (.Call (.Attribute (.Name x p1) "pop" apos) [e] [] p2) (some (.Name y p3)) pos.line X.env = pure false := by rfl) (hf : X.fn y = true ∨ X.env.scope.names.lookup y = some .local := by first | exact .inl rfl | exact .inr rfl | assumption) : XS X b (.Assign [.Name y p3] (.Call (.Attribute (.Name x p1) "pop" apos) [e] [] p2) pos) (sPop i j Ta) := by
  obtain ⟨_, h1, h2⟩ := ha
  refine ⟨_, ps_set hN hj hy (hpe (pe_var hN2 hv hd hcd) (pa_cons h1 pa_nil he)) hs hf, fun {Fm F0 H0 F H σ γ} E n t D k => ?_⟩
  unfold sPop at t
  have hi := n.slot i
  cases e : gat γ i with
  | un => rw [e] at t; exact t.elim
  | val d => rw [e] at t; exact t.elim
  | obj l d => rw [e] at t; exact t.elim
  | hid l d => rw [e] at t; exact t.elim
  | own l xs =>
    rw [e] at hi t
    obtain ⟨vs, a1, a2, a3, a4, a5, a6⟩ := hi
    refine ⟨_, a1, Or.inl ⟨rfl, vs, SqL.of a2⟩, h2 _ n t _ fun v d F' H' x r p => ?_⟩
    cases r <;> first | exact p.elim | skip
    rename_i z
    obtain ⟨m, d, p1, p2, p3, p4, p5⟩ := p
    obtain ⟨w, hw, rw_⟩ := (a3.mono x.grow).get' p2
    refine ⟨l, vs, z, m, w, rfl, rfl, x.keep _ _ a6 a2 .lst, p3, p4, by rw [a3.length]; exact (ixN_seq p1).1, hw, k.nx (((n.to x).wr e ((a3.mono x.grow).erase m)).set j rw_) p5⟩
/-! x, y = [..], e: the list stays one's own -/
@[reducible] def sParL (i j : Nat) (Tl : DAt) (Tc : DT) : DSt := fun E γ => Tl γ fun xs => Tc γ fun d => ∀ l, E.nx (gset (gset γ i (.own l xs)) j (.val d))
theorem s_parL {i j : Nat} {x y : Str} {a c : Expr} {px py pt : Pos} {kt k2 pt2} (hc : X.calm = true) (hN : X.N.Nodup) (hi : X.N[i]? = some x) (hj : X.N[j]? = some y) (hij : i ≠ j)
    (hx : X.env.scope.names.lookup x = some .local) (hy : X.env.scope.names.lookup y = some .local) (ha : XL X b a Tl) (hcc : XE X b c Tc)
    (hw : swappedStores [.Tuple [.Name x px, .Name y py] kt pt] (.Tuple [a, c] k2 pt2) X.env = pure (some [x, y]))
    (hs : swapsWithSole [.Tuple [.Name x px, .Name y py] kt pt] (.Tuple [a, c] k2 pt2) pos.line X.env = pure false := by rfl)
    (hs1 : starEach [a, c] X.env = (false, eval a X.env) :: starEach [c] X.env := by rfl) (hs2 : starEach [c] X.env = (false, eval c X.env) :: starEach [] X.env := by rfl) :
    XS X b (.Assign [.Tuple [.Name x px, .Name y py] kt pt] (.Tuple [a, c] k2 pt2) pos) (sParL i j Tl Tc) := by
  obtain ⟨_, h1, h2⟩ := ha; obtain ⟨_, g1, g2⟩ := hcc
  refine ⟨_, ps_par hc hN hi hj hij hx hy (pa_cons h1 (pa_cons g1 pa_nil hs2) hs1) hw hs, fun {Fm F0 H0 F H σ γ} E n t D k => h2 _ n t _ fun p vs xs F1 H1 x1 hp hl hf r pp => g2 _ (n.to x1) pp _ fun v d F2 H2 x2 r2 qq => ?_⟩
  have nb : b.bag ≠ some p := n.ok.nb hp
  refine ⟨_, _, rfl, k.nx ((((n.to x1).to x2).setOwn i (x2.keep _ _ nb hl .lst) (r.mono x2.grow) (by rw [x2.new _ _ hl .lst]; exact hf) (n.ext.back n.ok0 hp) nb fun m a hm hq => ?_).set j r2) (qq p)⟩
  obtain ⟨u, h3⟩ := n.there hm
  rw [hq, hp] at h3
  cases h3
/-! tuple * int -/
def rRep01 (K : PySem.W.Frag) : R2 := fun x y H Q => ∃ l k xs, x = .ref l ∧ y = .int k ∧ SqT K H l xs ∧ xs ≠ [] ∧ ((k = 1 ∧ Q x H) ∨ (k = 0 ∧ ∀ p, H p = none → Q (.ref p) (upd H p (.tup []))))
theorem op_rep01 : OpR X (binaryOp .Mult) (rRep01 X.K) := by
  intro pins s σ H x y v u Q I rx ry h
  obtain ⟨l, k, xs, rfl, rfl, hT, hne, q⟩ := h
  have rx' := rx
  cases rx
  obtain ⟨t, rfl⟩ := ry
  obtain ⟨its, r, ⟨⟨cls, dd, data, sl⟩, ho, hc, n, hd⟩, hs⟩ := I.tuple hT
  simp only at hc hd
  subst hc hd
  have hle : its.length = xs.length := r.length.symm
  have hi : its.toArray.isEmpty = false := by
    cases its with
    | nil => exact absurd (List.eq_nil_of_length_eq_zero hle.symm) hne
    | cons a b => rfl
  rcases q with ⟨rfl, q⟩ | ⟨rfl, q⟩
  · refine wpAny_binaryOp_repeat_ref (T := "tuple") (U := "int") (by decide) ⟨_, ho, rfl⟩ (fun s' => typeIs_int s' 1 t) noFill_tuple_mul F.fills_int_mul F.slot_int_rmul repeat_tuple F.slot_int_index.lookup
      (call_meets F.slot_int_rmul (typeIs_int s 1 t) F.entry_int_rmul (F.args_int_rmul_2 _ _) (int_rmul_tuple 1 t l its.toArray n dd sl)
        ⟨ho, rfl, ⟨_, ho, rfl⟩, call_meets F.slot_tuple_mul ⟨_, ho, rfl⟩ F.entry_tuple_mul (F.args_tuple_mul_2 _ _) (TM.mul_one l its.toArray n dd sl t) ⟨ho, ?_⟩⟩)
    exact ⟨.ref l, _, I, rx', q⟩
  · refine wpAny_binaryOp_repeat_ref (T := "tuple") (U := "int") (by decide) ⟨_, ho, rfl⟩ (fun s' => typeIs_int s' 0 t) noFill_tuple_mul F.fills_int_mul F.slot_int_rmul repeat_tuple F.slot_int_index.lookup
      (call_meets F.slot_int_rmul (typeIs_int s 0 t) F.entry_int_rmul (F.args_int_rmul_2 _ _) (int_rmul_tuple 0 t l its.toArray n dd sl)
        ⟨ho, rfl, ⟨_, ho, rfl⟩, call_meets F.slot_tuple_mul ⟨_, ho, rfl⟩ F.entry_tuple_mul (F.args_tuple_mul_2 _ _) (TM.mul_nil l its.toArray n dd sl t hi) ⟨ho, ?_⟩⟩)
    refine ⟨.ref s.heap.objs.size, _, I.laid (t' := s.toks) (o := .tup []) (fun b ob q => Heap.get?_push_of_some _ q) (Nat.le_refl _) ?_, rfl, q _ (I.hok.fresh (Nat.le_refl _))⟩
    exact ⟨by rw [sizeLine_eq]; decide, [], .nil, IsTup.new _ _⟩
@[reducible] def vRepT (x y : Dt) (P : Dt → Prop) : Prop := match x, y with | .tup u, .int k => u ≠ [] ∧ u.length ≤ 1000 ∧ 0 ≤ k ∧ k ≤ 1000 ∧ P (.tup (List.replicate k.toNat u).flatten) | _, _ => False
theorem x_repT (ha : XE X b e1 Ta) (hb : XE X b e2 Tb) : XE X b (.BinOp e1 .Mult e2 pos) (d2 vRepT Ta Tb) := by
  obtain ⟨_, h1, h2⟩ := ha; obtain ⟨_, g1, g2⟩ := hb
  refine ⟨_, pe_op (op_rep01.or op_repT) h1 g1, de_op (fun {F H x y d e} P k r1 r2 t Q q => ?_) h2 g2⟩
  cases r1 <;> cases r2 <;> first | exact t.elim | skip
  rename_i a vs xs ha r z
  obtain ⟨t1, t2, t3, t4, t5⟩ := t
  have hne : vs ≠ [] := fun e => t1 (List.eq_nil_of_length_eq_zero (by rw [← r.length, e] <;> rfl))
  by_cases h1 : z = 1
  · subst h1
    refine .inl ⟨a, 1, vs, rfl, rfl, SqT.of (k.1 _ _ ha), hne, .inl ⟨rfl, q _ _ F H (Ext.refl k) (.tup ha r) ?_⟩⟩
    have : (List.replicate (Int.toNat 1) xs).flatten = xs := by show (List.replicate 1 xs).flatten = xs; simp
    rw [this] at t5
    exact t5
  by_cases h0 : z = 0
  · subst h0
    refine .inl ⟨a, 0, vs, rfl, rfl, SqT.of (k.1 _ _ ha), hne, .inr ⟨rfl, fun p hp => q _ _ _ _ (Ext.push k hp) (.tup upd_same .nil) t5⟩⟩
  · refine .inr ⟨a, z, vs, rfl, rfl, SqT.of (k.1 _ _ ha), hne, by omega, t4, by rw [r.length]; exact t2, fun p hp => q _ _ _ _ (Ext.push k hp) (.tup upd_same ?_) t5⟩
    exact (rep_rep r z.toNat).mono (Ext.push k hp).grow
/-! zip of two, each a tuple or a list, of one length -/
def sqP : Dt → Option (Bool × List Dt)
  | .lst xs => some (false, xs)
  | .tup xs => some (true, xs)
  | _ => none
theorem sqP_rep {F H : Hp} {v : V} {d : Dt} {t : Bool} {xs : List Dt} (s : Sub F H) (r : Rep b F v d) (h : sqP d = some (t, xs)) : ∃ a vs, v = .ref a ∧ SqB K H (t, a) vs ∧ RepL b F vs xs ∧ F a = some (if t = true then .tup vs else .lst vs) := by
  cases r with
  | lst e r =>
    cases h
    refine ⟨_, _, rfl, ?_, r, e⟩
    exact (show SqL K H _ _ from SqL.of (s _ _ e))
  | tup e r =>
    cases h
    exact ⟨_, _, rfl, SqB.T (SqT.of (s _ _ e)), r, e⟩
  | _ => cases h
@[reducible] def iZ2 (Ta : DAt) : DAt := fun γ P => Ta γ fun ds => match ds with
  | [.lst xs, .lst ys] => xs.length = ys.length ∧ P (zipD xs ys)
  | [.lst xs, .tup ys] => xs.length = ys.length ∧ P (zipD xs ys)
  | [.tup xs, .lst ys] => xs.length = ys.length ∧ P (zipD xs ys)
  | [.tup xs, .tup ys] => xs.length = ys.length ∧ P (zipD xs ys)
  | _ => False
theorem walkd_zip2 {t1 t2 : Bool} {a c : Addr} {vs ws : List V} {xs ys : List Dt} (h1 : Fx a = some (if t1 = true then .tup vs else .lst vs)) (h2 : Fx c = some (if t2 = true then .tup ws else .lst ws)) (r1 : RepL b Fx vs xs) (r2 : RepL b Fx ws ys) (hl : xs.length = ys.length) :
    WalkD b (ItN K [(t1, a), (t2, c)] [vs, ws] xs.length) Fx (zipD xs ys) := by
  have g : ∀ H, Sub Fx H → ∀ (j : Nat) (p : Bool × Addr) (us : List V), [(t1, a), (t2, c)][j]? = some p → [vs, ws][j]? = some us → SqB K H p us := fun H s j p us e1 e2 => by
    match j, e1, e2 with
    | 0, e1, e2 =>
      cases e1; cases e2
      have := s _ _ h1
      unfold SqB
      cases t1
      · exact SqL.of this
      · exact SqT.of this
    | 1, e1, e2 =>
      cases e1; cases e2
      have := s _ _ h2
      unfold SqB
      cases t2
      · exact SqL.of this
      · exact SqT.of this
    | j + 2, e1, _ => simp at e1
  have hz : (zipD xs ys).length = xs.length := by rw [zipD_len]; omega
  refine ⟨fun i H v H' => ∃ T, v = .ref T ∧ H T = none ∧ H' = upd H T (.tup ([vs, ws].map fun xs => xs.getD i .non)), ⟨fun i H hi s => ⟨by rw [hz] at hi; exact hi, g H s⟩, fun H s => ⟨by rw [hz]; exact Nat.le_refl _, g H s⟩, fun i H x H' _ _ y => y⟩, fun i H x H' hi y => ?_⟩
  rw [hz] at hi
  obtain ⟨T, e1, e2, e3⟩ := y
  obtain ⟨v, hv, rv⟩ := r1.get' (List.getElem?_eq_getElem hi)
  obtain ⟨w, hw, rw_⟩ := r2.get' (List.getElem?_eq_getElem (show i < ys.length by omega))
  refine ⟨.tup [xs[i], ys[i]], ?_, .inr ⟨T, [v, w], _, e1, e2, ?_, .cons rv (.cons rw_ .nil), rfl⟩⟩
  · unfold zipD
    rw [List.getElem?_zipWith, List.getElem?_eq_getElem hi, List.getElem?_eq_getElem (show i < ys.length by omega)]
  · rw [e3]
    show upd H T (.tup [vs.getD i .non, ws.getD i .non]) = _
    rw [List.getD_eq_getElem?_getD, List.getD_eq_getElem?_getD, hv, hw] <;> rfl
theorem i_zip2 {p : Pos} (hg : Gl X "zip") (hm : X.mg "zip" = none) (ha : XA X b [e1, e2] Ta) (hs : starEach [e1, e2] X.env = (false, eval e1 X.env) :: starEach [e2] X.env := by rfl) (hpl : (backTo pos (starEach [e2] X.env)).any (·.1) = false := by rfl) :
    XI X b tg (.Call (.Name "zip" p) [e1, e2] [] pos) (iZ2 Ta) := by
  obtain ⟨_, h1, h2⟩ := ha
  refine ⟨_, pi_zipM hg hm h1 hs hpl, fun P n t R q => h2 _ n t _ fun vs ds F1 H1 x1 r1 t1 => ?_⟩
  cases r1 with
  | nil => exact t1.elim
  | cons ra rb =>
    cases rb with
    | nil => cases ra <;> exact t1.elim
    | cons rb rc =>
      cases rc with
      | cons _ _ => cases ra <;> cases rb <;> exact t1.elim
      | nil =>
        rename_i v d w e
        have key : ∃ (t u : Bool) (xs ys : List Dt), sqP d = some (t, xs) ∧ sqP e = some (u, ys) ∧ xs.length = ys.length ∧ P (zipD xs ys) := by
          cases d <;> cases e <;> first | exact t1.elim | exact ⟨_, _, _, _, rfl, rfl, t1.1, t1.2⟩
        obtain ⟨t, u, xs, ys, hd, he, hl, p1⟩ := key
        obtain ⟨a, us, rfl, s1, k1, f1⟩ := sqP_rep (K := X.K) x1.sub ra hd
        obtain ⟨c, ws, rfl, s2, k2, f2⟩ := sqP_rep (K := X.K) x1.sub rb he
        refine ⟨[(t, a), (u, c)], [us, ws], xs.length, rfl, rfl, (by show 0 < 2; decide), (by show 2 ≤ 100000; decide), fun j zs ej => ?_, fun j p zs e1 e2 => ?_, q _ _ F1 H1 x1 (walkd_zip2 f1 f2 k1 k2 hl) p1⟩
        · match j, ej with
          | 0, ej => cases ej; exact k1.length
          | 1, ej => cases ej; rw [k2.length, hl]
          | j + 2, ej => simp at ej
        · match j, e1, e2 with
          | 0, e1, e2 => cases e1; cases e2; exact s1
          | 1, e1, e2 => cases e1; cases e2; exact s2
          | j + 2, e1, _ => simp at e1
end
end DL

namespace DL
open PySem PySem.Spec PyProof.Rows L2 ZN
/-! a list of one's own is lent to what hands back lists: told apart by their data -/
section
variable {b : Bg} {F H : Hp}
mutual
theorem rep_one : ∀ {d e : Dt} {v : V}, Rep b F v d → Rep b F v e → plain d = true → plain e = true → d = e
  | .non, e, v, r1, r2, _, p => by cases r1; cases r2; rfl
  | .bl _, e, v, r1, r2, _, p => by cases r1; cases r2; rfl
  | .int _, e, v, r1, r2, _, p => by cases r1; cases r2; rfl
  | .str _, e, v, r1, r2, _, p => by cases r1; cases r2; rfl
  | .lst xs, e, v, r1, r2, p, q => by
    cases r1 with
    | lst e1 k1 =>
      cases r2 with
      | lst e2 k2 =>
        rw [e1] at e2
        cases e2
        rw [repL_one k1 k2 p q]
      | tup e2 k2 => rw [e1] at e2; cases e2
      | _ => cases q
  | .tup xs, e, v, r1, r2, p, q => by
    cases r1 with
    | tup e1 k1 =>
      cases r2 with
      | tup e2 k2 =>
        rw [e1] at e2
        cases e2
        rw [repL_one k1 k2 p q]
      | lst e2 k2 => rw [e1] at e2; cases e2
      | _ => cases q
  | .ins _ _, e, v, r1, r2, p, q => by cases p
  | .dT _, e, v, r1, r2, p, q => by cases p
  | .dK _, e, v, r1, r2, p, q => by cases p
  | .ptr _, e, v, r1, r2, p, q => by cases p
  | .bag, e, v, r1, r2, p, q => by cases p
  | .exc _ _, e, v, r1, r2, p, q => by cases p
  | .lam _ _, e, v, r1, r2, p, q => by cases p
  | .clo _ _, e, v, r1, r2, p, q => by cases p
theorem repL_one : ∀ {ds es : List Dt} {vs : List V}, RepL b F vs ds → RepL b F vs es → plainL ds = true → plainL es = true → ds = es
  | [], es, vs, r1, r2, _, q => by cases r1; cases r2; rfl
  | d :: ds, es, vs, r1, r2, p, q => by
    cases r1 with
    | cons a1 k1 =>
      cases r2 with
      | cons a2 k2 =>
        have p2 := (Bool.and_eq_true _ _).mp (show (plain d && plainL ds) = true from p)
        rename_i e2 es2
        have q2 := (Bool.and_eq_true _ _).mp (show (plain e2 && plainL es2) = true from q)
        rw [rep_one a1 a2 p2.1 q2.1, repL_one k1 k2 p2.2 q2.2]
end
mutual
/-- the list xs stands nowhere within -/
def noLx (xs : List Dt) : Dt → Prop
  | .lst ys => ys ≠ xs ∧ noLxL xs ys
  | .tup ys => noLxL xs ys
  | .ins _ _ => False
  | .dT _ => False
  | .dK _ => False
  | _ => True
def noLxL (xs : List Dt) : List Dt → Prop
  | [] => True
  | y :: r => noLx xs y ∧ noLxL xs r
end
mutual
theorem rep_lessX {l : Addr} {us : List V} {xs : List Dt} (hl : F l = some (.lst us)) (hr : RepL b F us xs) (px : plainL xs = true) : ∀ {d : Dt} {v : V}, Rep b F v d → plain d = true → noLx xs d → Rep b (less F l) v d
  | .non, _, h, _, _ => by cases h; exact .non
  | .bl _, _, h, _, _ => by cases h; exact .bl _
  | .int _, _, h, _, _ => by cases h; exact .int _
  | .str _, _, h, _, _ => by cases h; exact .str _
  | .lst ys, _, h, p, q => by
    cases h with
    | lst e r =>
      have q' : ys ≠ xs ∧ noLxL xs ys := q
      refine .lst (by
        rw [less_ne fun z => ?_]
        · exact e
        · rw [z, hl] at e
          cases e
          exact q'.1 (repL_one r hr p px)) (repL_lessX hl hr px r p q'.2)
  | .tup ys, _, h, p, q => by
    cases h with
    | tup e r => exact .tup (by rw [less_ne (fun z => by rw [z, hl] at e; cases e)]; exact e) (repL_lessX hl hr px r p q)
  | .ins C fs, _, h, p, _ => by cases p
  | .dT kvs, _, h, p, _ => by cases p
  | .dK kvs, _, h, p, _ => by cases p
  | .ptr _, _, h, p, _ => by cases p
  | .bag, _, h, p, _ => by cases p
  | .exc _ _, _, h, p, _ => by cases p
  | .lam _ _, _, h, p, _ => by cases p
  | .clo _ _, _, h, p, _ => by cases p
theorem repL_lessX {l : Addr} {us : List V} {xs : List Dt} (hl : F l = some (.lst us)) (hr : RepL b F us xs) (px : plainL xs = true) : ∀ {ds : List Dt} {vs : List V}, RepL b F vs ds → plainL ds = true → noLxL xs ds → RepL b (less F l) vs ds
  | [], _, h, _, _ => by cases h; exact .nil
  | d :: ds, _, h, p, q => by
    cases h with
    | cons r t =>
      have p2 := (Bool.and_eq_true _ _).mp (show (plain d && plainL ds) = true from p)
      have q2 : noLx xs d ∧ noLxL xs ds := q
      exact .cons (rep_lessX hl hr px r p2.1 q2.1) (repL_lessX hl hr px t p2.2 q2.2)
end
end
/-- d has not the list xs within it -/
def sepD (xs : List Dt) (d : Dt) : Prop := noLst d = true ∨ (plain d = true ∧ plainL xs = true ∧ noLx xs d)
@[reducible] def dLendX (i : Nat) (T : DT) : DT := fun γ P => match gat γ i with
  | .own _ xs => T (gset γ i (.val (.lst xs))) fun d => sepD xs d ∧ P d
  | .obj _ o => objK o = true ∧ T (gset γ i (.val o)) fun d => noObj d = true ∧ P d
  | .val _ => T γ P
  | _ => False
section
variable {X : Cx} {b : Bg} {e : Expr}
theorem de_lendX {te : TE} {T : DT} (i : Nat) (h : DE b te T) : DE b te (dLendX i T) := fun {Fm F0 H0 F H σ γ} P n t Q q => by
  unfold dLendX at t
  cases e : gat γ i with
  | un => rw [e] at t; exact t.elim
  | val d => rw [e] at t; exact h _ n t Q q
  | own l xs =>
    rw [e] at t
    have hi := n.slot i
    rw [e] at hi
    obtain ⟨vs, h1, h2, h3, h4, h5, h6⟩ := hi
    obtain ⟨nl, core⟩ := lend_coreG n (d := .lst xs) (by rw [e]; rfl) h1 h2 (.lst h3) h4 h5 h6
    refine h _ nl t Q fun v d F' H' y r p => q v d (less F' l) H' (core F' H' y).2 ?_ p.2
    rcases p.1 with z | ⟨z1, z2, z3⟩
    · exact rep_less (core F' H' y).1 r z
    · refine rep_lessX (core F' H' y).1 (RepL.mono (fun a o z => ?_) h3) z2 r z1 z3
      exact y.grow _ _ (by rw [upd_ne (ne_of_none z h4)]; exact z)
  | obj l o =>
    rw [e] at t
    have hi := n.slot i
    rw [e] at hi
    obtain ⟨u, h1, h2, h3, h4, h5, h6⟩ := hi
    obtain ⟨nl, core⟩ := lend_coreG n (d := o) (by rw [e]; rfl) h1 h2 h3 h4 h5 h6
    obtain ⟨k1, k2⟩ := h3.kind t.1
    exact h _ nl t.2 Q fun v d F' H' y r p => q v d (less F' l) H' (core F' H' y).2 (rep_lessO (core F' H' y).1 k1 k2 r p.1) p.2
  | hid l d => rw [e] at t; exact t.elim
theorem x_lendX (i : Nat) (h : XE X b e T) : XE X b e (dLendX i T) := by
  obtain ⟨_, h1, h2⟩ := h
  exact ⟨_, h1, de_lendX i h2⟩
end
end DL

namespace DL
open PySem PySem.Spec PyProof.Rows L2 ZN
/-! a name that holds a list or a tuple, walked -/
section
variable {X : Cx} {b : Bg} {tg : Expr}
@[reducible] def iSV (i : Nat) : DAt := fun γ P => match gat γ i with | .val (.lst xs) => P xs | .val (.tup xs) => P xs | _ => False
theorem i_seq (i : Nat) {x : Str} {pos : Pos} (hN : X.N[i]? = some x := by rfl) (hv : Vis X.env.scope x := by first | exact Or.inl rfl | exact Or.inr (Or.inl rfl) | exact Or.inr (Or.inr rfl)) (hd : (x == ("__debug__" : Str)) = false := by decide)
    (hcd : (x == ("__classdict__" : Str)) = false := by decide) : XI X b tg (.Name x pos) (iSV i) := by
  obtain ⟨_, p1, d1⟩ := i_list (X := X) (b := b) (tg := tg) (xv i (pos := pos) hN hv hd hcd)
  obtain ⟨_, p2, d2⟩ := i_tup (X := X) (b := b) (tg := tg) (xv i (pos := pos) hN hv hd hcd)
  refine ⟨_, ⟨fun pins s σ H R I h => Or.elim h (fun h => p1.run pins s σ H R I h) (fun h => p2.run pins s σ H R I h)⟩, fun {Fm F0 H0 F H σ γ} P n t R q => ?_⟩
  unfold iSV at t
  cases e : gat γ i with
  | val d =>
    rw [e] at t
    cases d with
    | lst xs => exact .inl (d1 P n (show dVar i γ _ by unfold dVar; rw [e]; exact t) R q)
    | tup xs => exact .inr (d2 P n (show dVar i γ _ by unfold dVar; rw [e]; exact t) R q)
    | _ => exact t.elim
  | _ => rw [e] at t; exact t.elim
end
/-! words for comprehensions over typed items -/
section
variable {α β : Type} {xs : List Dt} {as : List α} {g : α → Dt} {Tg : Dt → Gm → (Gm → Prop) → Prop} {Tt : DBt} {Te : DT} {γw : Gm} {P : List Dt → Prop}
theorem getg {i : Nat} {d : Dt} (hx : xs = as.map g) (h : xs[i]? = some d) : ∃ a, as[i]? = some a ∧ d = g a := by
  rw [hx, List.getElem?_map] at h
  cases e : as[i]? with
  | none => rw [e] at h; cases h
  | some a => rw [e] at h; exact ⟨a, rfl, (Option.some.inj h).symm⟩
/-- f of each item -/
theorem wd_map {f : α → Dt} (hx : xs = as.map g) (step : ∀ (i : Nat) (a : α), as[i]? = some a → ∀ Q : Dt → Prop, Q (f a) → Tg (g a) γw fun γ2 => Te γ2 Q) (rest : P (as.map f)) :
    Word (∃ Iv : Nat → List Dt → Prop, Iv 0 [] ∧ (∀ i d acc, xs[i]? = some d → acc.length ≤ i → Iv i acc → Tg d γw fun γ2 => (fun (_ : Gm) (P : Bool → Prop) => P true) γ2 fun c => (match c with | true => Te γ2 fun y => Iv (i + 1) (acc ++ [y]) | false => Iv (i + 1) acc)) ∧ ∀ acc, acc.length ≤ xs.length → Iv xs.length acc → P acc) := by
  refine ⟨fun i acc => acc = (as.take i).map f, rfl, fun i d acc hd _ ha => ?_, fun acc _ ha => ?_⟩
  · obtain ⟨a, ea, rfl⟩ := getg hx hd
    refine step i a ea (fun y => acc ++ [y] = (as.take (i + 1)).map f) ?_
    show acc ++ [f a] = _
    rw [ha, List.take_add_one, ea, List.map_append] <;> rfl
  · rw [hx, List.length_map, List.take_length] at ha
    rw [ha]
    exact rest
/-- the items that pass, f of each -/
theorem wd_filter {f : α → Dt} {p : α → Bool} (hx : xs = as.map g) (step : ∀ (i : Nat) (a : α), as[i]? = some a → ∀ (Q : Dt → Prop) (R : Prop), (p a = true → Q (f a)) → (p a = false → R) → Tg (g a) γw fun γ2 => Tt γ2 fun c => (match c with | true => Te γ2 Q | false => R)) (rest : P ((as.filter p).map f)) :
    Word (∃ Iv : Nat → List Dt → Prop, Iv 0 [] ∧ (∀ i d acc, xs[i]? = some d → acc.length ≤ i → Iv i acc → Tg d γw fun γ2 => Tt γ2 fun c => (match c with | true => Te γ2 fun y => Iv (i + 1) (acc ++ [y]) | false => Iv (i + 1) acc)) ∧ ∀ acc, acc.length ≤ xs.length → Iv xs.length acc → P acc) := by
  refine ⟨fun i acc => acc = ((as.take i).filter p).map f, rfl, fun i d acc hd _ ha => ?_, fun acc _ ha => ?_⟩
  · obtain ⟨a, ea, rfl⟩ := getg hx hd
    refine step i a ea (fun y => acc ++ [y] = ((as.take (i + 1)).filter p).map f) _ (fun h => ?_) (fun h => ?_)
    · show acc ++ [f a] = _
      rw [ha, List.take_add_one, ea, List.filter_append, List.map_append]
      simp [h]
    · show acc = _
      rw [ha, List.take_add_one, ea, List.filter_append, List.map_append]
      simp [h]
  · rw [hx, List.length_map, List.take_length] at ha
    rw [ha]
    exact rest
/-- each item gives something of which p tells -/
theorem wd_any {h : β → Dt} {p : Nat → α → β → Prop} (hx : xs = as.map g) (step : ∀ (i : Nat) (a : α), as[i]? = some a → ∀ Q : Dt → Prop, (∀ b, p i a b → Q (h b)) → Tg (g a) γw fun γ2 => Te γ2 Q)
    (rest : ∀ bs : List β, bs.length = as.length → (∀ i a b, as[i]? = some a → bs[i]? = some b → p i a b) → P (bs.map h)) :
    Word (∃ Iv : Nat → List Dt → Prop, Iv 0 [] ∧ (∀ i d acc, xs[i]? = some d → acc.length ≤ i → Iv i acc → Tg d γw fun γ2 => (fun (_ : Gm) (P : Bool → Prop) => P true) γ2 fun c => (match c with | true => Te γ2 fun y => Iv (i + 1) (acc ++ [y]) | false => Iv (i + 1) acc)) ∧ ∀ acc, acc.length ≤ xs.length → Iv xs.length acc → P acc) := by
  refine ⟨fun i acc => ∃ bs : List β, acc = bs.map h ∧ bs.length = i ∧ ∀ j a b, as[j]? = some a → bs[j]? = some b → p j a b, ⟨[], rfl, rfl, fun j a b _ e => by simp at e⟩, fun i d acc hd _ ha => ?_, fun acc _ ha => ?_⟩
  · obtain ⟨a, ea, rfl⟩ := getg hx hd
    obtain ⟨bs, rfl, hl, hp⟩ := ha
    refine step i a ea _ fun b hb => ⟨bs ++ [b], by rw [List.map_append] <;> rfl, by rw [List.length_append, hl] <;> rfl, fun j a' b' e1 e2 => ?_⟩
    by_cases hj : j < bs.length
    · rw [List.getElem?_append_left hj] at e2
      exact hp j a' b' e1 e2
    · rw [List.getElem?_append_right (by omega)] at e2
      have hj2 : j = i := by
        have := (List.getElem?_eq_some_iff.mp e2).1
        simp at this
        omega
      subst hj2
      rw [hl, Nat.sub_self] at e2
      rw [ea] at e1
      cases e1
      cases e2
      exact hb
  · obtain ⟨bs, rfl, hl, hp⟩ := ha
    rw [hx, List.length_map] at hl
    exact rest bs hl hp
theorem all_of {γ : Type} {as : List γ} {p : γ → Bool} {P : Dt → Prop} (h : P (.bl (as.all p))) : ∃ ns : List Bool, [Dt.lst (as.map fun a => Dt.bl (p a))] = [.lst (ns.map Dt.bl)] ∧ P (.bl (ns.all id)) :=
  ⟨as.map p, by rw [List.map_map] <;> rfl, by rw [List.all_map]; exact h⟩
theorem any_of {γ : Type} {as : List γ} {p : γ → Bool} {P : Dt → Prop} (h : P (.bl (as.any p))) : ∃ ns : List Bool, [Dt.lst (as.map fun a => Dt.bl (p a))] = [.lst (ns.map Dt.bl)] ∧ P (.bl (ns.any id)) :=
  ⟨as.map p, by rw [List.map_map] <;> rfl, by rw [List.any_map]; exact h⟩
theorem sum_of {γ : Type} {as : List γ} {p : γ → Int} {P : Dt → Prop} (h : P (.int (as.map p).sum)) : ∃ ns : List Int, [Dt.lst (as.map fun a => Dt.int (p a))] = [.lst (ns.map Dt.int)] ∧ P (.int ns.sum) :=
  ⟨as.map p, by rw [List.map_map] <;> rfl, h⟩
/-! the items of what is walked, typed -/
theorem rngD_map (lo : Int) (n : Nat) : rngD lo n = (List.range n).map fun i => Dt.int (lo + (i : Nat)) := rfl
theorem zipD_map {α β : Type} {as : List α} {bs : List β} {g : α → Dt} {h : β → Dt} : zipD (as.map g) (bs.map h) = (as.zip bs).map fun p => .tup [g p.1, h p.2] := by
  unfold zipD
  rw [List.zipWith_map, List.zip, List.map_zipWith]
theorem enumD_map {α : Type} {as : List α} {g : α → Dt} : enumD (as.map g) = as.zipIdx.map fun p => .tup [.int (p.2 : Nat), g p.1] := by
  unfold enumD
  apply List.ext_getElem?
  intro i
  rw [List.getElem?_mapIdx, List.getElem?_map, List.getElem?_map, List.getElem?_zipIdx]
  cases as[i]? with
  | none => rfl
  | some a => simp
theorem for_of {Iv : Nat → Gm → Prop} {Tb : DSt} {N : Gm → Prop} {Rt : Gm → Dt → Prop} {γ : Gm} (hx : xs = as.map g) (h0 : Iv 0 γ)
    (step : ∀ i a γ', as[i]? = some a → Iv i γ' → Tg (g a) γ' fun γ2 => Tb { nx := Iv (i + 1), rt := Rt, bk := N, ct := Iv (i + 1) } γ2) (rest : ∀ γ', Iv as.length γ' → N γ') :
    Word (∃ Iv : Nat → Gm → Prop, Iv 0 γ ∧ (∀ i d γ', xs[i]? = some d → Iv i γ' → Tg d γ' fun γ2 => Tb { nx := Iv (i + 1), rt := Rt, bk := N, ct := Iv (i + 1) } γ2) ∧ ∀ γ', Iv xs.length γ' → N γ') := by
  refine ⟨Iv, h0, fun i d γ' hd hi => ?_, fun γ' hi => ?_⟩
  · obtain ⟨a, ea, rfl⟩ := getg hx hd
    exact step i a γ' ea hi
  · rw [hx, List.length_map] at hi
    exact rest γ' hi
end
end DL

namespace DL
open PySem PySem.Spec PyProof.Rows L2 ZN
section
variable {X : Cx} {b : Bg} {e : Expr} {pos : Pos}
/-! tests with a list of one's own, lent or given away before -/
@[reducible] def bLendX (i : Nat) (T : DBt) : DBt := fun γ P => match gat γ i with
  | .own _ xs => T (gset γ i (.val (.lst xs))) P
  | .obj _ o => T (gset γ i (.val o)) P
  | .val _ => T γ P
  | _ => False
theorem t_lendX (i : Nat) (h : XT X b e T) : XT X b e (bLendX i T) := by
  obtain ⟨_, h1, h2⟩ := h
  refine ⟨_, h1, fun {Fm F0 H0 F H σ γ} P n t Q q => ?_⟩
  have g : DB b _ (bLend i T) := db_lend i h2
  unfold bLendX at t
  cases e : gat γ i with
  | un => rw [e] at t; exact t.elim
  | hid l d => rw [e] at t; exact t.elim
  | val d => rw [e] at t; exact h2 _ n t Q q
  | own l xs => exact g P n (show bLend i T γ P by unfold bLend; rw [e] at t ⊢; exact t) Q q
  | obj l o => exact g P n (show bLend i T γ P by unfold bLend; rw [e] at t ⊢; exact t) Q q
/-! x, y = [..], e by a tuple: the list stays one's own -/
theorem s_parLc {i j : Nat} {x y : Str} {a c : Expr} {px py pt : Pos} {kt k2 pt2} (hc : X.calm = true) (hN : X.N.Nodup) (hi : X.N[i]? = some x) (hj : X.N[j]? = some y)
    (hx : Loc X.env.scope x) (hy : Loc X.env.scope y) (ha : XL X b a Tl) (hcc : XE X b c Tc)
    (hfx : X.fn x = true ∨ X.env.scope.names.lookup x = some .local := by first | exact .inl rfl | exact .inr rfl | assumption) (hfy : X.fn y = true ∨ X.env.scope.names.lookup y = some .local := by first | exact .inl rfl | exact .inr rfl | assumption)
    (hw : swappedStores [.Tuple [.Name x px, .Name y py] kt pt] (.Tuple [a, c] k2 pt2) X.env = pure none := by rfl)
    (hs : swapsWithSole [.Tuple [.Name x px, .Name y py] kt pt] (.Tuple [a, c] k2 pt2) pos.line X.env = pure false := by rfl)
    (hh : (assignEach [.Tuple [.Name x px, .Name y py] kt pt] X.env).map (·.2) = [assign (.Tuple [.Name x px, .Name y py] kt pt) X.env] := by rfl)
    (hn : (assignEach [.Name x px, .Name y py] X.env).length = 2 := by rfl) (hst : (assignEach [.Name x px, .Name y py] X.env).findIdx? (·.1) = none := by rfl)
    (hs0 : (assignEach (.Name x px :: [.Name y py]) X.env).map (·.2) = assign (.Name x px) X.env :: (assignEach [.Name y py] X.env).map (·.2) := by rfl)
    (hs00 : (assignEach (.Name y py :: []) X.env).map (·.2) = assign (.Name y py) X.env :: (assignEach [] X.env).map (·.2) := by rfl)
    (hs1 : starEach [a, c] X.env = (false, eval a X.env) :: starEach [c] X.env := by rfl) (hs2 : starEach [c] X.env = (false, eval c X.env) :: starEach [] X.env := by rfl) :
    XS X b (.Assign [.Tuple [.Name x px, .Name y py] kt pt] (.Tuple [a, c] k2 pt2) pos) (sParL i j Tl Tc) := by
  obtain ⟨_, h1, h2⟩ := ha; obtain ⟨_, g1, g2⟩ := hcc
  refine ⟨_, ps_asg (pe_tup (pa_cons h1 (pa_cons g1 pa_nil hs2) hs1)) (pg_tup hc (pgs_cons (pg_name (i := i) hN hi hx hfx) (pgs_cons (pg_name (i := j) hN hj hy hfy) pgs_nil hs00) hs0) hn hst) hs hw hh,
    fun {Fm F0 H0 F H σ γ} E n t D k => h2 _ n t _ fun p vs xs F1 H1 x1 hp hl hf r pp => g2 _ (n.to x1) pp _ fun v d F2 H2 x2 r2 qq => ?_⟩
  refine ⟨by show 2 ≤ sizeLine; decide, fun t ht => ?_⟩
  have nb : b.bag ≠ some p := n.ok.nb hp
  have hl2 : H2 p = some (.lst vs) := x2.keep _ _ nb hl .lst
  have x3 : Ext b F2 H2 F2 (upd H2 t (.tup [.ref p, v])) := Ext.laid x2.ok ht
  have hl3 : upd H2 t (.tup [.ref p, v]) p = some (.lst vs) := by rw [upd_ne (ne_of_none hl2 ht)]; exact hl2
  refine ⟨t, [.ref p, v], rfl, SqT.of upd_same, rfl, _, _, rfl, _, _, rfl, rfl, ?_⟩
  refine k.nx (((((n.to x1).to x2).to x3).setOwn i hl3 (r.mono x2.grow) (by rw [x2.new _ _ hl .lst]; exact hf) (n.ext.back n.ok0 hp) nb fun m a hm hq => ?_).set j (x3.mono r2)) (qq p)
  obtain ⟨u, h3⟩ := n.there hm
  rw [hq, hp] at h3
  cases h3
end
end DL

namespace DL
open PySem PySem.Spec PyProof.Rows L2 ZN
/-! data: plain, not deep, of sane sizes -/
theorem plainL_all : ∀ xs : List Dt, plainL xs = xs.all plain
  | [] => rfl
  | x :: xs => by
    show (plain x && plainL xs) = _
    rw [plainL_all xs] <;> rfl
theorem plain_lst (xs : List Dt) : plain (.lst xs) = xs.all plain := plainL_all xs
theorem plain_tup (xs : List Dt) : plain (.tup xs) = xs.all plain := plainL_all xs
theorem plain_int (i : Int) : plain (.int i) = true := rfl
theorem plain_str (i : Str) : plain (.str i) = true := rfl
theorem plain_bl (i : Bool) : plain (.bl i) = true := rfl
theorem plain_non : plain .non = true := rfl
theorem okSL_all : ∀ xs : List Dt, okSL xs = xs.all okS
  | [] => rfl
  | x :: xs => by
    show (okS x && okSL xs) = _
    rw [okSL_all xs] <;> rfl
theorem okS_lst (xs : List Dt) : okS (.lst xs) = (decide (xs.length ≤ 100000) && xs.all okS) := by rw [← okSL_all] <;> rfl
theorem okS_tup (xs : List Dt) : okS (.tup xs) = (decide (xs.length ≤ 100000) && xs.all okS) := by rw [← okSL_all] <;> rfl
theorem okS_int (i : Int) : okS (.int i) = true := rfl
theorem okS_str (i : Str) : okS (.str i) = true := rfl
theorem okS_bl (i : Bool) : okS (.bl i) = true := rfl
theorem okS_non : okS .non = true := rfl
theorem depL_le : ∀ {xs : List Dt} {n : Nat}, depL xs ≤ n ↔ ∀ x ∈ xs, dep x ≤ n
  | [], n => ⟨fun _ x hx => (by cases hx), fun _ => Nat.zero_le _⟩
  | x :: xs, n => by
    show max (dep x) (depL xs) ≤ n ↔ _
    rw [Nat.max_le, depL_le (xs := xs)]
    constructor
    · rintro ⟨a, c⟩ y hy
      rcases List.mem_cons.mp hy with e | hy
      · rw [e]; exact a
      · exact c y hy
    · exact fun h => ⟨h x List.mem_cons_self, fun y hy => h y (List.mem_cons_of_mem _ hy)⟩
theorem dep_lst {xs : List Dt} {n : Nat} : dep (.lst xs) ≤ n + 1 ↔ ∀ x ∈ xs, dep x ≤ n := by
  show depL xs + 1 ≤ n + 1 ↔ _
  rw [← depL_le]
  omega
theorem dep_tup {xs : List Dt} {n : Nat} : dep (.tup xs) ≤ n + 1 ↔ ∀ x ∈ xs, dep x ≤ n := by
  show depL xs + 1 ≤ n + 1 ↔ _
  rw [← depL_le]
  omega
theorem dep_int (i : Int) : dep (.int i) = 1 := by unfold dep; rfl
theorem dep_str (i : Str) : dep (.str i) = 1 := by unfold dep; rfl
theorem dep_bl (i : Bool) : dep (.bl i) = 1 := by unfold dep; rfl
theorem dep_non : dep .non = 1 := by unfold dep; rfl
mutual
/-- data that may be compared -/
def cmpOk : Dt → Bool
  | .lst xs => cmpOkL xs
  | .tup xs => cmpOkL xs
  | .str x => PyData.canLay0 (.str x)
  | .ins _ _ => false
  | .dT _ => false
  | .dK _ => false
  | .ptr _ => false
  | .bag => false
  | .exc _ _ => false
  | .lam _ _ => false
  | .clo _ _ => false
  | _ => true
def cmpOkL : List Dt → Bool
  | [] => true
  | x :: xs => cmpOk x && cmpOkL xs
end
theorem cmpOkL_all : ∀ xs : List Dt, cmpOkL xs = xs.all cmpOk
  | [] => rfl
  | x :: xs => by
    show (cmpOk x && cmpOkL xs) = _
    rw [cmpOkL_all xs] <;> rfl
theorem cmp_lst (xs : List Dt) : cmpOk (.lst xs) = xs.all cmpOk := cmpOkL_all xs
theorem cmp_tup (xs : List Dt) : cmpOk (.tup xs) = xs.all cmpOk := cmpOkL_all xs
theorem cmp_int (i : Int) : cmpOk (.int i) = true := rfl
theorem cmp_bl (i : Bool) : cmpOk (.bl i) = true := rfl
theorem cmp_non : cmpOk .non = true := rfl
theorem cmp_str (x : Str) : cmpOk (.str x) = PyData.canLay0 (.str x) := rfl
mutual
theorem cmp_lay : ∀ d : Dt, cmpOk d = true → plain d = true ∧ PyData.canLay0 (py d) = true ∧ PyData.depth (py d) ≤ dep d
  | .non, _ => ⟨rfl, rfl, Nat.zero_le _⟩
  | .bl k, _ => ⟨rfl, rfl, Nat.zero_le _⟩
  | .int i, _ => ⟨rfl, rfl, Nat.zero_le _⟩
  | .str x, h => ⟨rfl, h, Nat.zero_le _⟩
  | .lst xs, h => by
    obtain ⟨h0, h1, h2⟩ := cmp_layL xs h
    exact ⟨h0, h1, Nat.succ_le_succ h2⟩
  | .tup xs, h => by
    obtain ⟨h0, h1, h2⟩ := cmp_layL xs h
    exact ⟨h0, h1, Nat.succ_le_succ h2⟩
  | .ins _ _, h => by cases h
  | .dT _, h => by cases h
  | .dK _, h => by cases h
  | .ptr _, h => by cases h
  | .bag, h => by cases h
  | .exc _ _, h => by cases h
  | .lam _ _, h => by cases h
  | .clo _ _, h => by cases h
theorem cmp_layL : ∀ ds : List Dt, cmpOkL ds = true → plainL ds = true ∧ PyData.canLayAll0 (pyL ds) = true ∧ PyData.depthAll (pyL ds) ≤ depL ds
  | [], _ => ⟨rfl, rfl, Nat.le_refl _⟩
  | d :: ds, h => by
    have h' := (Bool.and_eq_true _ _).mp (show (cmpOk d && cmpOkL ds) = true from h)
    obtain ⟨a0, a1, a2⟩ := cmp_lay d h'.1
    obtain ⟨c0, c1, c2⟩ := cmp_layL ds h'.2
    refine ⟨?_, ?_, ?_⟩
    · show (plain d && plainL ds) = true
      rw [a0, c0] <;> rfl
    · show (PyData.canLay0 (py d) && PyData.canLayAll0 (pyL ds)) = true
      rw [a1, c1] <;> rfl
    · show max (PyData.depth (py d)) (PyData.depthAll (pyL ds)) ≤ max (dep d) (depL ds)
      omega
end
theorem eqOk_of {d : Dt} {n : Nat} (h : cmpOk d = true) (k : dep d ≤ n) (hn : n ≤ 64 := by decide) : eqOk d = true := by
  obtain ⟨h1, h2, h3⟩ := cmp_lay d h
  show (plain d && (PyData.canLay0 (py d) && decide (PyData.depth (py d) ≤ 64))) = true
  rw [h1, h2, decide_eq_true (by omega)] <;> rfl
theorem eqv_same {d : Dt} (h : cmpOk d = true) : PyData.eqv (py d) (py d) = true := SeqAt.eqv_refl _ (cmp_lay d h).2.1
end DL

/-! {(k, ..): v for .. in ..}: a dict whose keys are tuples. -/
namespace DcT
open PySem PySem.Spec PyProof.Rows L2
section
variable {X : Cx}
/-- one store of the comprehension -/
theorem put_t {pins : List (Addr × Obj)} {σ : L2.St} {H : Hp} {s : Shared} {E : Value → Shared → Prop} {D p : Addr} {kvs : List (List Key × V)} {k : List Key} {v : V} {r : Value} {Q : Unit → Shared → Prop} (hu : X.A.units + 1 < cLine) (I : Inv X pins σ H s) (hD : H D = some (.dT kvs)) (hp : H p = some (.tup (k.map kV)))
    (hl : kvs.length < sizeLine) (rv : RelV v r) (h : ∀ s', Inv X pins σ (upd H D (.dT (putK kvs k v))) s' → Q () s') : wpAny (model X.prog X.w) X.A (dictSet D (.ref p) r) Q E s := by
  obtain ⟨z, nd, xs, rel, dd⟩ := dt_of I.hok hD
  have hz : xs.length ≤ sizeLine := by rw [← Paired.length rel]; exact z
  have hl2 : (putK kvs k v).length ≤ sizeLine := Nat.le_trans (length_putK kvs k v) hl
  refine wpAny_dictSet_heap (hsz := hz) (show X.A.units < cLine by omega) (key_of I.hok hp) dd fun h' dd' hs => h _ ?_
  obtain ⟨q, es, ep, hq, h2, h3, h4, _, h5⟩ := dd'
  refine d_write I (by rw [hD]; exact True.intro) hs ⟨q, hq⟩ ⟨hl2, nd, _, (rel.put k hp rv).keeps fun c ys ec => ?_, q, es, ep, hq, h2, h3, h4, h5⟩
  rw [upd_ne (ne_of ec hD (fun z => nomatch z))]
  exact ec
/-- the reading: D the new dict, p where a turn's key stands -/
def tDt (wi : TI) (g : TG) (tt : TT) (tk tv : TE) (vs : List Nat) : TE := fun σ H Q => wi σ H fun J H1 => ∀ D, H1 D = none → ∃ W : Nat → Nat → Hp → Prop, (∃ m, W 0 m (upd H1 D (.dT []))) ∧ ∀ i m Hi, W i m Hi →
  (J.stop i Hi ∧ Q (.ref D) Hi) ∨ (J.go i Hi ∧ ∃ Nx : Hp → Prop, (∀ Hn, Nx Hn → ∃ m', m' < m ∧ W (i + 1) m' Hn) ∧ ∀ x Hy, J.yld i Hi x Hy → g x (wipe σ vs) Hy fun σ2 H2 => wipe σ2 vs = wipe σ vs ∧ tt σ2 H2 fun c H3 =>
    if c = true then tk σ2 H3 fun y H4 => tv σ2 H4 fun z H5 => ∃ kvs k p, y = .ref p ∧ H5 p = some (.tup (k.map kV)) ∧ H5 D = some (.dT kvs) ∧ kvs.length < sizeLine ∧ Nx (upd H5 D (.dT (putK kvs k z))) else Nx H3)
theorem pe_dt {kx vx tg iter : Expr} {ifs : List Expr} {scope : Scope} {own : List (Str × Nat)} {pos : Pos} {wi : TI} {g : TG} {tt : TT} {tk tv : TE} (hc : X.calm = true) (hN : X.N.Nodup) (hu : X.A.units + 1 < cLine) (hi : PI X tg iter wi) (ok : BlkOk X.N X.env.scope scope own)
    (hg : ∀ i : DL.Bix, PG (DL.Cx.blkI X scope i) tg g) (ht : ∀ i : DL.Bix, PTs (DL.Cx.blkI X scope i) ifs tt) (hk : ∀ i : DL.Bix, PE (DL.Cx.blkI X scope i) kx tk) (hv : ∀ i : DL.Bix, PE (DL.Cx.blkI X scope i) vx tv)
    (hs : ∀ x, foldedSetIterable iter X.env x = pure x := by intro _; rfl) : PE X (.DictComp kx vx [⟨tg, iter, ifs, 0⟩] scope pos) (tDt wi g tt tk tv (own.map (·.2))) := by
  constructor
  intro pins s σ H Q I h
  rw [arm_eval_DictComp]
  have closed : ∀ y ∈ scope.names, y.2 = .free → ∃ c, X.env.cells.lookup y.1 = some c := fun y hy e => (ok.free y hy e).elim (fun k => I.ok.has _ (Or.inl k)) (fun k => I.ok.has _ (Or.inr k))
  have single : ∀ y ∈ scope.names, y.2 = .local → scope.names.lookup y.1 = some .local := fun y hy e => (ok.uniq y hy).trans (congrArg some e)
  refine wpAny_comprehension_free rfl hs (closure_ok closed) ok.kind single (thn (hi.run pins s σ H _ I h) fun _ _ a => thn a fun _ sI b => ?_)
  obtain ⟨it, fp, tn, J, HI, rfl, II, T, tI, fI, q⟩ := b
  refine (wpAny_newObj_type (newEnv_comp ?_))
  -- the dict, and what stands when the block begins
  let D := sI.heap.objs.size
  have dN : HI D = none := II.hok.fresh (Nat.le_refl _)
  obtain ⟨W, ⟨m0, w0⟩, turn⟩ := q D dN
  let hD := sI.heap.push { cls := .type "dict", data := .dict #[] }
  let sD : Shared := { sI with heap := hD }
  let HD := upd HI D (.dT [])
  have push : ∀ c o, sI.heap.get? c = some o → hD.get? c = some o := fun c o e => Heap.get?_push_of_some _ e
  have ID : Inv X pins σ HD sD := II.laid (t' := sI.toks) push (Nat.le_refl _) (dt_empty sI.heap II.big)
  have low : ∀ c ∈ fp, c < D := fun c hc => by
    obtain ⟨o, e, _⟩ := T.obj _ _ tI c hc
    exact Heap.lt_size e
  have fD : ∀ c ∈ fp, FpOk X pins HD c ∧ c < sD.heap.objs.size := fun c hc => ⟨⟨(upd_ne (Nat.ne_of_lt (low c hc))).trans (fI c hc).1, (fI c hc).2⟩, by
    show c < hD.objs.size
    rw [Heap.size_push]
    exact Nat.lt_succ_of_lt (low c hc)⟩
  let L := sD.heap.objs.size
  let cl := cellsFrom (L + 1) scope.names (cloFrom X.env.cells scope.names [])
  let bx : DL.Bix := (sD, HD, L, cl, fp)
  let Y := DL.Cx.blkI X scope bx
  have IB := block_start ID ok hN fD
  let sB : Shared := { sD with heap := pushCells (sD.heap.push { cls := .type "dict", data := .dict #[] }) scope.names }
  have tB : tn 0 sB.heap := T.keep _ _ _ tI fun c _ o e => pushCells_keeps _ _ _ _ (Heap.get?_push_of_some _ (push c o e))
  have still : ∀ {σ' : L2.St} {H' : Hp} {s' : Shared}, Inv Y [] σ' H' s' → (∀ c ∈ fp, H' c = none) → ∀ c ∈ fp, FpOk Y [] H' c := fun {_ _ _} J' hn c hc => ⟨hn c hc, (J'.ok.exf c hc).1, J'.ok.exfs c hc, Or.inl hc, fun x d e => (J'.ok.exf c hc).2 x d e, fun p hp => by
    have hp' : p ∈ ([] : List (Addr × Obj)) ++ [] := hp
    cases hp'⟩
  have loop : codeAny (model X.prog X.w) X.A (.compLoop (.DictComp kx vx [⟨tg, iter, ifs, 0⟩] scope pos) 0 (.ref it) (.ref D) (compEnvC scope cl L X.env)) (compPost (model X.prog X.w) X.A X.xe none (EP X pins σ Q) (.ref D) L) sB := by
    refine compLoop_anyD (fun m s' => ∃ i Hi, Inv Y [] (wipe σ (own.map (·.2))) Hi s' ∧ tn i s'.heap ∧ (∀ c ∈ fp, Hi c = none) ∧ W i m Hi) ?_ m0 ⟨0, HD, IB, tB, fun c hc => (fD c hc).1.1, w0⟩
    rintro m s1 ⟨i, H1, I1, t1, n1, w1⟩
    rcases turn i m H1 w1 with ⟨stop, qe⟩ | ⟨go, Nx, less, step⟩
    · refine thnF (T.done Y rfl rfl rfl hc i [] s1 _ H1 (fun _ _ => False) I1 (still I1 n1) t1 stop) fun r s2 ⟨hr, I2⟩ => ?_
      subst hr
      have back : Inv X pins σ H1 s2 := ID.call' (ch := fp) I2.os I2.base I2.hok I2.bare fun c hc =>
        let z := (fD c hc).1.2
        ⟨z.2.2.1, z.1, z.2.2.2.1, z.2.2.2.2⟩
      have nL : H1 L = none := I2.free
      have fL : FpOk X pins H1 L := ID.fpOk (Nat.le_refl _) nL
      obtain ⟨mm, loc, _⟩ := I2.loc
      exact ⟨mm, loc, fun _ sb => ⟨.ref D, H1, back.turned (t' := s2.toks) (fun c o hc e => (sb.2 c hc).trans e) fL.1 fL.2.1 fL.2.2.2.1 fL.2.2.2.2.1 fL.2.2.2.2.2, rfl, qe⟩⟩
    · refine thnF (T.item Y rfl rfl rfl hc i [] s1 _ H1 (fun _ _ => False) I1 (still I1 n1) t1 go) fun r s2 ⟨u, hr, a2⟩ => ?_
      subst hr
      refine thnF a2 fun _ s3 ⟨x, H3, I3, r3, y3, t3, n3⟩ => ?_
      have held := I3.pinned (still I3 n3) (T.obj _ _ t3)
      refine thnF ((hg bx).run _ s3 _ H3 x u _ held r3 (step x H3 y3)) fun _ s4 ⟨σ4, H4, I4, w4, q4⟩ => ?_
      refine thnF ((ht bx).run _ s4 σ4 H4 _ I4 q4) fun c s5 ⟨H5, I5, q5⟩ => ?_
      have next : ∀ {s' : Shared} {H' : Hp}, Inv Y ([] ++ pinsAt fp s3.heap) σ4 H' s' → Nx H' → ∃ m', m' < m ∧ ∃ i Hi, Inv Y [] (wipe σ (own.map (·.2))) Hi s' ∧ tn i s'.heap ∧ (∀ c ∈ fp, Hi c = none) ∧ W i m' Hi := fun {s' H'} J' nx => by
        obtain ⟨m', lt, w'⟩ := less H' nx
        have stays : ∀ c ∈ fp, ∀ o, s3.heap.get? c = some o → s'.heap.get? c = some o ∧ H' c = none := fun c hc o e => by
          obtain ⟨z1, z2, _⟩ := J'.pin (c, o) (List.mem_append_right _ (List.mem_append_right _ (mem_pinsAt hc e)))
          exact ⟨z1, z2⟩
        have len : (wipe σ (own.map (·.2))).length = σ4.length := by rw [← wipe_length σ4 (own.map (·.2)), w4]
        have bare := (J'.unpinned (pins := [])).weak len fun j v e => (wipe_some (w4 ▸ e)).1
        refine ⟨m', lt, i + 1, H', bare, T.keep _ _ _ t3 fun c hc o e => (stays c hc o e).1, fun c hc => ?_, w'⟩
        obtain ⟨o, e, _⟩ := T.obj _ _ t3 c hc
        exact (stays c hc o e).2
      cases c with
      | false =>
        simp only [Bool.false_eq_true, if_false] at q5 ⊢
        exact next I5 q5
      | true =>
        simp only [if_true] at q5 ⊢
        refine thnF ((hk bx).run _ s5 σ4 H5 _ I5 q5) fun kv s6 ⟨ky, H6, I6, r6, q6⟩ => ?_
        refine thnF ((hv bx).run _ s6 σ4 H6 _ I6 q6) fun vv s7 ⟨vy, H7, I7, r7, kvs, k, p, ek, hp, hD7, hz, nx⟩ => ?_
        subst ek
        obtain rfl : kv = Value.ref p := r6
        exact put_t (X := Y) hu I7 hD7 hp hz r7 fun s8 I8 => next I8 nx
  exact codeAny_compStart_dict loop (T.self X.A 0 _ _ _ tB loop)
end
end DcT

namespace DL
open PySem PySem.Spec PyProof.Rows L2
open DcT (tDt pe_dt)
/-! a dict comprehension with tuple keys, told by data -/
def keyD : Key → Dt
  | .inl i => .int i
  | .inr s => .str s
def putT (kvs : List (List Key × Dt)) (k : List Key) (d : Dt) : List (List Key × Dt) :=
  if (kvs.any fun q => decide (q.1 = k)) = true then kvs.map (fun q => if q.1 = k then (q.1, d) else q) else kvs ++ [(k, d)]
section
variable {b : Bg} {F F' : Hp}
theorem keys_rep : ∀ {ks : List Key} {ws : List V}, RepL b F ws (ks.map keyD) → ws = ks.map kV
  | [], _, h => by cases h; rfl
  | k :: ks, _, h => by
    cases h with
    | cons r t =>
      rw [keys_rep t]
      cases k <;> (cases r; rfl)
theorem RepD.any {k : List Key} : ∀ {kvs : List (List Key × Dt)} {vs : List (List Key × V)}, RepD b F vs kvs → (vs.any fun q => decide (q.1 = k)) = kvs.any fun q => decide (q.1 = k)
  | [], _, h => by cases h; rfl
  | (n, d) :: kvs, _, h => by
    cases h with
    | cons r t => rw [List.any_cons, List.any_cons, RepD.any t]
theorem RepD.length : ∀ {kvs : List (List Key × Dt)} {vs : List (List Key × V)}, RepD b F vs kvs → vs.length = kvs.length
  | [], _, h => by cases h; rfl
  | (n, d) :: kvs, _, h => by
    cases h with
    | cons r t => exact congrArg (· + 1) (RepD.length t)
theorem RepD.append : ∀ {xs ys : List (List Key × Dt)} {vs ws : List (List Key × V)}, RepD b F vs xs → RepD b F ws ys → RepD b F (vs ++ ws) (xs ++ ys)
  | _, _, _, _, .nil, s => s
  | _, _, _, _, .cons r t, s => .cons r (RepD.append t s)
theorem RepD.repl {k : List Key} {v : V} {d : Dt} (r : Rep b F v d) : ∀ {kvs : List (List Key × Dt)} {vs : List (List Key × V)}, RepD b F vs kvs → RepD b F (vs.map fun q => if q.1 = k then (q.1, v) else q) (kvs.map fun q => if q.1 = k then (q.1, d) else q)
  | [], _, h => by cases h; exact .nil
  | (n, e) :: kvs, _, h => by
    cases h with
    | @cons _ w vs2 _ _ q t =>
      by_cases z : n = k
      · rw [List.map_cons, List.map_cons, if_pos (show (n, w).1 = k from z), if_pos (show (n, e).1 = k from z)]
        exact .cons r (RepD.repl r t)
      · rw [List.map_cons, List.map_cons, if_neg (show ¬ (n, w).1 = k from z), if_neg (show ¬ (n, e).1 = k from z)]
        exact .cons q (RepD.repl r t)
theorem RepD.put {k : List Key} {v : V} {d : Dt} {kvs : List (List Key × Dt)} {vs : List (List Key × V)} (r : Rep b F v d) (h : RepD b F vs kvs) : RepD b F (putK vs k v) (putT kvs k d) := by
  unfold putK putT
  rw [h.any]
  split
  · exact h.repl r
  · exact h.append (.cons r .nil)
theorem putT_len (kvs : List (List Key × Dt)) (k : List Key) (d : Dt) : (putT kvs k d).length ≤ kvs.length + 1 := by
  unfold putT
  split
  · rw [List.length_map]; omega
  · rw [List.length_append] <;> exact Nat.le_refl _
end
@[reducible] def dDt (TI : DAt) (Tg : Dt → Gm → (Gm → Prop) → Prop) (Tt : DBt) (Ty Te : DT) (vs : List Nat) : DT := fun γ P => TI γ fun xs => xs.length ≤ 100000 ∧ Word (∃ Iv : Nat → List (List Key × Dt) → Prop, Iv 0 [] ∧
  (∀ i d acc, xs[i]? = some d → acc.length ≤ i → Iv i acc → Tg d (gwipe γ vs) fun γ2 => Tt γ2 fun c => (match c with | true => Ty γ2 fun y => Te γ2 fun z => ∃ k : List Key, y = .tup (k.map keyD) ∧ Iv (i + 1) (putT acc k z) | false => Iv (i + 1) acc)) ∧ ∀ acc, acc.length ≤ xs.length → Iv xs.length acc → P (.dT acc))
section
variable {X : Cx} {b : Bg} {tg e e1 e2 iter : Expr} {es : List Expr} {pos : Pos}
theorem de_dt {wi : TI} {g : TG} {tt : TT} {tk tv : TE} {vs js : List Nat} {TI : DAt} {Tg : Dt → Gm → (Gm → Prop) → Prop} {Tt : DBt} {T1 T2 : DT} (hi : DI b wi TI) (hg : DG b g Tg js) (ht : DB b tt Tt) (hk : DE b tk T1) (hv : DE b tv T2) (hj : ∀ i, i ∈ js → i ∈ vs) :
    DE b (tDt wi g tt tk tv vs) (dDt TI Tg Tt T1 T2 vs) := fun {Fm F0 H0 F H σ γ} P n t Q q => hi _ n t _ fun J xs Fx H1 x1 w t1 => by
  obtain ⟨hz, Iv, i0, is, id⟩ := t1
  intro D hD
  obtain ⟨Y, wk, wy⟩ := w.ex
  have nb : b.bag ≠ some D := x1.ok.nb hD
  let Pv : Nat → Hp → Prop := fun i H' => ∃ F' kvs acc, Ext b Fx H1 F' H' ∧ H' D = some (.dT kvs) ∧ F' D = none ∧ RepD b F' kvs acc ∧ acc.length ≤ i ∧ Iv i acc
  refine ⟨fun i m H' => m = xs.length - i ∧ i ≤ xs.length ∧ Pv i H', ⟨_, rfl, Nat.zero_le _, Fx, [], [], Ext.laid x1.ok hD, upd_same, x1.ok.fF hD, .nil, Nat.le_refl _, i0⟩, ?_⟩
  rintro i m H' ⟨rfl, hle, F', kvs, acc, xx, a1, a2, a3, a4, a5⟩
  have gg : Sub Fx H' := fun a o h => xx.sub a o (xx.grow a o h)
  by_cases hlt : i < xs.length
  · refine .inr ⟨wk.goes i H' hlt gg, Pv (i + 1), fun Hn p => ⟨xs.length - (i + 1), by omega, rfl, hlt, p⟩, fun x H'' y0 => ?_⟩
    obtain ⟨d, hd, hy⟩ := wy i H' x H'' hlt (wk.yields i H' x H'' hlt gg y0)
    obtain ⟨F2, x2, rx⟩ : ∃ F2, Ext b F' H' F2 H'' ∧ Rep b F2 x d := by
      rcases hy with ⟨rfl, r⟩ | ⟨T, us, ds, rfl, hT, rfl, r, rfl⟩
      · exact ⟨F', Ext.refl xx.ok, r.mono xx.grow⟩
      · exact ⟨_, Ext.push xx.ok hT, .tup upd_same (r.mono (xx.grow.trans (Ext.push xx.ok hT).grow))⟩
    have n2 : Nv b Fm F0 H0 F2 H'' (wipe σ vs) (gwipe γ vs) := ((n.to x1).to (xx.trans x2)).wiped vs
    refine hg _ n2 rx (is i d acc hd a4 a5) _ fun σ2 γ2 n3 l3 s3 t3 => ⟨?_, ?_⟩
    · exact (wipe_ext (js := vs) l3 fun i hi => s3 i fun z => hi (hj i z)).trans (wipe_ext (wipe_length _ _) fun i hi => wipe_at σ hi)
    · have hD2 : H'' D = some (.dT kvs) := x2.keep _ _ nb a1 .dT
      refine ht _ n3 t3 _ fun c F3 H3 x3 t4 => ?_
      cases c with
      | true =>
        refine iteT (hk _ (n3.to x3) t4 _ fun y dk F4 H4 x4 r4 t5 => hv _ ((n3.to x3).to x4) t5 _ fun z dz F5 H5 x5 r5 t6 => ?_)
        obtain ⟨k, ek, t7⟩ := t6
        subst ek
        cases r4 with
        | tup e r =>
          have ew := keys_rep r
          subst ew
          have z5 := (x3.trans x4).trans x5
          have hD5 : H5 D = some (.dT kvs) := z5.keep _ _ nb hD2 .dT
          have fD5 : F5 D = none := by rw [z5.new _ _ hD2 .dT, x2.new _ _ a1 .dT]; exact a2
          have hl := a3.length
          refine ⟨kvs, k, _, rfl, x5.sub _ _ (x5.grow _ _ e), hD5, Nat.lt_of_le_of_lt (show kvs.length ≤ 100000 by omega) (by decide), F5, putK kvs k z, putT acc k dz, ((xx.trans x2).trans z5).wr hD fD5 nb hD5 .dT (fun _ z => by cases z), upd_same, fD5, ?_, ?_, t7⟩
          · exact (RepD.mono (x2.grow.trans z5.grow) a3).put r5
          · have := putT_len acc k dz
            omega
      | false =>
        have fD3 : F3 D = none := by rw [x3.new _ _ hD2 .dT, x2.new _ _ a1 .dT]; exact a2
        exact iteF ⟨F3, kvs, acc, (xx.trans x2).trans x3, x3.keep _ _ nb hD2 .dT, fD3, RepD.mono (x2.grow.trans x3.grow) a3, Nat.le_succ_of_le a4, t4⟩
  · have e : i = xs.length := by omega
    subst e
    refine .inl ⟨wk.stops H' gg, ?_⟩
    have y := (x1.trans xx).take (x1.back n.ok hD) nb a1
    exact q (.ref D) (.dT acc) _ H' y (.dT upd_same (RepD.mono (fun a o h => by rw [upd_ne (ne_of_none h a2)]; exact h) a3)) (id acc a4 a5)
theorem x_dt {kx vx : Expr} {ifs : List Expr} {scope : Scope} {own : List (Str × Nat)} {js vs : List Nat} {TI : DAt} {Tg : Dt → Gm → (Gm → Prop) → Prop} {Tt : DBt} {T1 T2 : DT} (hc : X.calm = true) (hN : X.N.Nodup) (hu : X.A.units + 64 < cLine) (hi : XI X b tg iter TI) (ok : BlkOk X.N X.env.scope scope own)
    (hg : ∀ i : Bix, XG (Cx.blkI X scope i) b tg Tg js) (ht : ∀ i : Bix, XTs (Cx.blkI X scope i) b ifs Tt) (hk : ∀ i : Bix, XE (Cx.blkI X scope i) b kx T1) (hv : ∀ i : Bix, XE (Cx.blkI X scope i) b vx T2) (hj : ∀ i, i ∈ js → i ∈ vs) (ho : own.map (·.2) = vs := by rfl) (hs : ∀ x, foldedSetIterable iter X.env x = pure x := by intro _; rfl) :
    XE X b (.DictComp kx vx [⟨tg, iter, ifs, 0⟩] scope pos) (dDt TI Tg Tt T1 T2 vs) := by
  subst ho
  obtain ⟨_, i1, i2⟩ := hi
  obtain ⟨g, g1, g2⟩ := XG.all hg
  obtain ⟨tt, t1, t2⟩ := XTs.all ht
  obtain ⟨tk, k1, k2⟩ := XE.all hk
  obtain ⟨tv, v1, v2⟩ := XE.all hv
  exact ⟨_, pe_dt hc hN (by omega) i1 ok g1 t1 k1 v1 hs, de_dt i2 g2 t2 k2 v2 hj⟩
end
end DL

namespace DL
open PySem PySem.Spec PyProof.Rows L2 ZN
section
variable {X : Cx} {b : Bg} {e e1 e2 e3 o tg : Expr} {es : List Expr} {pos : Pos} {K : PySem.W.Frag} {Fx : Hp}
/-! f() -/
theorem x_call0 {k : Nat} {f : Addr} {fd : FuncData} {ps : List Str} {x : Str} {p : Pos} {T : DSp} (F : FnOk X.prog X.w X.K X.mg X.base CX0 k f fd ps (spD b 0 T)) (hr : Room k X.A) (hg : Gl X x) (hm : X.mg x = some (.ref f)) (hk : PySem.W.keepIn X.K (.ref f) = true) (hb : Binds X.K fd ps [])
    (hdb : (x == ("__debug__" : Str)) = false := by decide) : XE X b (.Call (.Name x p) [] [] pos) (dCall 0 T aNil) := by
  refine ⟨_, pe_call0 F hr hg hm hk hb .nil pass0 hdb, fun P n t Q q => ?_⟩
  exact ⟨_, [], P, n.ok, .nil, t.1, t.2, fun v d F' H' x r p1 => q v d F' H' x r p1⟩
/-! o.m(k = v, ..) -/
def tMethK (C : Addr) (m : Str) (sp : Sp) (gV : List V → List V → List V) (E : L2.XK) (ta : TE) (tk : TA) : TE := fun σ H Q => ta σ H fun x H1 => ∃ a dx fs, x = .ref a ∧ H1 a = some (.ins C dx fs) ∧ fs.lookup m = none ∧ tk σ H1 fun zs H2 => sp (gV [x] zs) H2 Q E
theorem pe_methK0 {CX : CXT} {k : Nat} {f C : Addr} {fd : FuncData} {ps ks : List Str} {sp : Sp} {E : L2.XK} {m : Str} {apos : Pos} {kws : List Keyword} {ta : TE} {tk : TA} {g : List Value → List Value → List Value} {gV : List V → List V → List V} {pl : Sem Bool}
    (he : PE X o ta) (c : Cls X.K C) (hm : Meth X.K C m f) (F : FnOk X.prog X.w X.K X.mg X.base CX k f fd ps sp) (hr : Room k X.A) (hb : KBinds X.K fd ps ks g gV) (hx : Passes CX X E) (hkw : PK X kws tk)
    (hall : (backToKw pos (keywordEach kws X.env)).all (·.1.isSome) = true := by rfl) (hks : (backToKw pos (keywordEach kws X.env)).filterMap (·.1) = ks := by rfl)
    (hpl : ((backTo pos (starEach [] X.env)).any (·.1) || (backToKw pos (keywordEach kws X.env)).any (·.1.isNone)) = false := by rfl)
    (ht : eval (.Call (.Attribute o m apos) [] kws pos) X.env = (do
      let ov ← eval o X.env
      standAt apos.atName
      let (f, first) ← holding [ov] (getMethod ov m pl)
      callWith pos f first (backTo pos (starEach [] X.env)) (backToKw pos (keywordEach kws X.env))) := by rfl) :
    PE X (.Call (.Attribute o m apos) [] kws pos) (tMethK C m sp gV E ta tk) := by
  refine ⟨fun pins s σ H Q I h => ?_⟩
  refine PySem.W.methodCall_KW (pl := pl) (thn (he.run pins s σ H _ I h) fun u s1 ⟨x, H1, I1, rx, a, dx, fs, ex, ea, l, q⟩ => ?_) ht
  subst ex
  obtain rfl : u = Value.ref a := rx
  refine getmeth_ok I1 ea c hm l ?_
  refine PySem.W.callWith_KW0 (first := [.ref a]) (h₀ := X.base) I.ok.mod.kin hm.kp hall ?_ hpl
  refine thn (hkw.run pos pins s1 σ H1 _ I1 q) fun ws s2 ⟨zs, H2, I2, rz, q2⟩ => ⟨I2.kIn, ?_⟩
  rw [hks]
  exact run_fnk (us := [.ref a]) (vs := [.ref a]) F hr hb hx I2 (.cons rfl .nil) rz q2
@[reducible] def dMethK (C : Addr) (mn : Str) (m : Nat) (T : DSp) (g : List Dt → List Dt → List Dt) (To : DT) (Tk : DAt) : DT := fun γ P => To γ fun d => match d with | .ins C' fs => C' = C ∧ fs.lookup mn = none ∧ Tk γ (fun es => (g [.ins C' fs] es).length = m ∧ T (g [.ins C' fs] es) P) | _ => False
theorem x_methK0 {k : Nat} {f C : Addr} {fd : FuncData} {ps ks : List Str} {mn : Str} {p : Pos} {m : Nat} {T : DSp} {To : DT} {Tk : DAt} {kws : List Keyword} {pl : Sem Bool} {g : List Value → List Value → List Value} {gV : List V → List V → List V} {gD : List Dt → List Dt → List Dt} (c : Cls X.K C) (hm : Meth X.K C mn f) (F : FnOk X.prog X.w X.K X.mg X.base CX0 k f fd ps (spD b m T)) (hr : Room k X.A) (hb : KBinds X.K fd ps ks g gV)
    (hgd : ∀ {F : Hp} {vs zs : List V} {ds es : List Dt}, RepL b F vs ds → RepL b F zs es → RepL b F (gV vs zs) (gD ds es)) (ho : XE X b o To) (hkw : XKw X b kws Tk)
    (hall : (backToKw pos (keywordEach kws X.env)).all (·.1.isSome) = true := by rfl) (hks : (backToKw pos (keywordEach kws X.env)).filterMap (·.1) = ks := by rfl)
    (hpl : ((backTo pos (starEach [] X.env)).any (·.1) || (backToKw pos (keywordEach kws X.env)).any (·.1.isNone)) = false := by rfl)
    (ht : eval (.Call (.Attribute o mn p) [] kws pos) X.env = (do
      let ov ← eval o X.env
      standAt p.atName
      let (f, first) ← holding [ov] (getMethod ov mn pl)
      callWith pos f first (backTo pos (starEach [] X.env)) (backToKw pos (keywordEach kws X.env))) := by rfl) :
    XE X b (.Call (.Attribute o mn p) [] kws pos) (dMethK C mn m T gD To Tk) := by
  obtain ⟨_, h1, h2⟩ := ho; obtain ⟨_, g1, g2⟩ := hkw
  refine ⟨_, pe_methK0 (pl := pl) h1 c hm F hr hb pass0 g1 hall hks hpl ht, fun P n t Q q => h2 _ n t _ fun v d F1 H1 x1 r1 t1 => ?_⟩
  cases r1 <;> first | exact t1.elim | skip
  rename_i hh r
  obtain ⟨ec, hz, t2⟩ := t1
  subst ec
  refine ⟨_, _, _, rfl, x1.sub _ _ hh, r.no hz, g2 _ (n.to x1) t2 _ fun zs es F2 H2 x2 r2 t3 => ?_⟩
  exact ⟨F2, _, P, x2.ok, hgd (.cons (x2.mono (.ins hh r)) .nil) r2, t3.1, t3.2, fun v d F' H' x r p1 => q v d F' H' ((x1.trans x2).trans x) r p1⟩
/-! e.f, a property -/
@[reducible] def dProp (C : Addr) (T : DSp) (Ta : DT) : DT := fun γ P => Ta γ fun d => match d with | .ins C' fs => C' = C ∧ T [.ins C' fs] P | _ => False
theorem x_prop {k : Nat} {p g C : Addr} {fd : FuncData} {ps : List Str} {f : Str} {T : DSp} (c : Cls X.K C) (hp : PropOf X.K C f p g) (F : FnOk X.prog X.w X.K X.mg X.base CX0 k g fd ps (spD b 1 T)) (hr : Room (k + 1) X.A) (hb : Binds X.K fd ps []) (ha : XE X b e Ta)
    (hab : attributeBase e f X.env (eval e X.env) = eval e X.env := by rfl) : XE X b (.Attribute e f pos) (dProp C T Ta) := by
  obtain ⟨_, h1, h2⟩ := ha
  refine ⟨_, pe_prop h1 c hp F hr hb .nil pass0 hab, fun P n t Q q => h2 _ n t _ fun v d F1 H1 x1 r1 t1 => ?_⟩
  cases r1 <;> first | exact t1.elim | skip
  rename_i hh r
  obtain ⟨ec, t2⟩ := t1
  subst ec
  exact ⟨_, _, _, rfl, x1.sub _ _ hh, F1, [_], P, x1.ok, .cons (.ins hh r) .nil, rfl, t2, fun v d F' H' x r p1 => q v d F' H' (x1.trans x) r p1⟩
theorem units65 {k : Nat} {A : Around} (r : Room k A) : A.units + 65 < cLine := by have := r.un; omega
/-! x in a list, of data of any depth -/
def anyD (x : Dt) (xs : List Dt) : Bool := xs.any fun z => PyData.eqv (py z) (py x)
@[reducible] def vInD (neg : Bool) (x y : Dt) (P : Dt → Prop) : Prop := match y with
  | .lst xs => eqOk x = true ∧ eqOk (.lst xs) = true ∧ P (.bl (match neg with | true => nB (anyD x xs) | false => anyD x xs))
  | _ => False
theorem pyL_map : ∀ xs : List Dt, pyL xs = xs.map py
  | [] => rfl
  | x :: xs => by
    show py x :: pyL xs = _
    rw [pyL_map xs] <;> rfl
theorem d2_inD {K} {neg : Bool} {r : R2} (hr : ∀ x y H Q, (∃ d ds, Dp K H x d ∧ Dp K H y (.list ds) ∧ SeqAt.shaped d = true ∧ SeqAt.shaped (.list ds) = true ∧ Q (.bl (match neg with | true => !ds.any fun z => PyData.eqv z d | false => ds.any fun z => PyData.eqv z d)) H) → r x y H Q) : D2 b r (vInD neg) := fun {F H x y d e} P k r1 r2 t Q q => by
  cases e <;> first | exact t.elim | skip
  rename_i xs
  obtain ⟨t1, t2, t3⟩ := t
  unfold eqOk at t1 t2
  rw [Bool.and_eq_true] at t1 t2
  refine hr _ _ _ _ ⟨py d, pyL xs, rep_dp k.1 r1 t1.1, rep_dp k.1 r2 t2.1, t1.2, t2.2, q _ _ F H (Ext.refl k) ?_ t3⟩
  have e : ((pyL xs).any fun z => PyData.eqv z (py d)) = anyD d xs := by
    unfold anyD
    rw [pyL_map, List.any_map] <;> rfl
  cases neg with
  | true =>
    show Rep b F (.bl (!_)) (.bl (nB _))
    rw [e, nB_eq]
    exact .bl _
  | false =>
    show Rep b F (.bl _) (.bl _)
    rw [e]
    exact .bl _
theorem x_inD (hu : X.A.units + 65 < cLine) (ha : XE X b e1 Ta) (hb : XE X b e2 Tb) (hm : behindInMarks .In e2 = false := by rfl) : XE X b (.Compare e1 [.In] [e2] pos) (d2 (vInD false) Ta Tb) := by
  obtain ⟨_, h1, h2⟩ := ha; obtain ⟨_, g1, g2⟩ := hb
  exact ⟨_, pe_cmpR (op_inD hu) h1 g1 hm, de_op (d2_inD fun x y H Q h => h) h2 g2⟩
theorem x_notInD (hu : X.A.units + 65 < cLine) (ha : XE X b e1 Ta) (hb : XE X b e2 Tb) (hm : behindInMarks .NotIn e2 = false := by rfl) : XE X b (.Compare e1 [.NotIn] [e2] pos) (d2 (vInD true) Ta Tb) := by
  obtain ⟨_, h1, h2⟩ := ha; obtain ⟨_, g1, g2⟩ := hb
  exact ⟨_, pe_cmpR (op_notInD hu) h1 g1 hm, de_op (d2_inD fun x y H Q h => h) h2 g2⟩
theorem t_inD (hu : X.A.units + 65 < cLine) (ha : XE X b e1 Ta) (hb : XE X b e2 Tb) (hm : behindInMarks .In e2 = false := by rfl) : XT X b (.Compare e1 [.In] [e2] pos) (tB1 (d2 (vInD false) Ta Tb)) := t_op (op_inD hu) (d2_inD fun x y H Q h => h) hm ha hb
theorem t_notInD (hu : X.A.units + 65 < cLine) (ha : XE X b e1 Ta) (hb : XE X b e2 Tb) (hm : behindInMarks .NotIn e2 = false := by rfl) : XT X b (.Compare e1 [.NotIn] [e2] pos) (tB1 (d2 (vInD true) Ta Tb)) := t_op (op_notInD hu) (d2_inD fun x y H Q h => h) hm ha hb
end
end DL

namespace DL
open PySem PySem.Spec PyProof.Rows L2
/-- a def with defaults of its own, told by any value that stands for them -/
structure FunV (K : PySem.W.Frag) (x qual : Str) (st : Stmt) (f : Addr) (fd : FuncData) : Prop where
  ex : ∃ (oc : Value) (od : Option Addr) (dV kV doc pm : Value) (an : Option Addr) (cdv ct : Value) (osl : Array (Option Value)),
    fd = PySem.W.fnOf x qual (defArgs st) (defBody st) (defScope st) dV kV doc pm an cdv ct ∧ K.lookup f = some ⟨oc, od, .func fd, osl⟩ ∧ PySem.W.codeIn K cdv qual = true
  kp : PySem.W.keepIn K (.ref f) = true
section
variable {P : Program} {w : World} {K : PySem.W.Frag} {mg : Str → Option Value} {base : Heap} {b : Bg}
theorem FunV.ok {x qual : Str} {st : Stmt} {f : Addr} {fd : FuncData} {N ps : List Str} {k : Nat} {sp : Sp} (F : FunV K x qual st f fd) (S : FnScope N ps (defScope st)) (len : ∀ vs H Q E, sp vs H Q E → vs.length = ps.length)
    (hbody : ∀ (cdv : Value) (A : Around) (outer : List Env) (s : Shared) (H : Hp) (vs : List V) (Q : VK) (E : L2.XK), Room k (A.deeper (envOfC qual (defScope st) s.heap.objs.size f cdv)) → sp vs H Q E →
      ∃ t, PSs (cxOf CX0 P w K mg base N qual (defScope st) f cdv A outer s H E).nox (defBody st) t ∧ t { nx := fun _ H' => Q .non H', rt := Q } (L2.start N vs) H) : FnOk P w K mg base CX0 (k + 1) f fd ps sp := by
  obtain ⟨oc, od, dV, kV, doc, pm, an, cdv, ct, osl, rfl, lk, hcd⟩ := F.ex
  refine fn_of lk hcd S len fun A outer s H vs Q E hr hsp => ?_
  obtain ⟨t, h, q⟩ := hbody cdv A outer s H vs Q E hr hsp
  exact ⟨t, h.nox, q⟩
theorem funV_mk {x qual : Str} {st : Stmt} {f : Addr} {oc : Value} {od an : Option Addr} {osl : Array (Option Value)} {dV kV doc pm cdv ct : Value} (l : K.lookup f = some ⟨oc, od, .func (PySem.W.fnOf x qual (defArgs st) (defBody st) (defScope st) dV kV doc pm an cdv ct), osl⟩)
    (c : PySem.W.codeIn K cdv qual = true) (k : PySem.W.keepIn K (.ref f) = true) : FunV K x qual st f (PySem.W.fnOf x qual (defArgs st) (defBody st) (defScope st) dV kV doc pm an cdv ct) := ⟨⟨oc, od, dV, kV, doc, pm, an, cdv, ct, osl, rfl, l, c⟩, k⟩
/-- all arguments are given: the defaults are read, and none is taken -/
theorem bindsV {x qual : Str} {st : Stmt} {T e : Addr} {oT : Value} {pT an : Option Addr} {nT : Nat} {sT : Array (Option Value)} {kV doc pm cdv ct : Value} {ps : List Str} (l : K.lookup T = some ⟨oT, pT, .seq #[.ref e] nT, sT⟩)
    (h : ∀ us : List Value, us.length = ps.length → ∃ k, bindArgs (PySem.W.fnOf x qual (defArgs st) (defBody st) (defScope st) (.ref T) kV doc pm an cdv ct) ⟨us, []⟩ = seqItems? (.ref T) >>= k ∧ k (some #[.ref e]) = pure (ps.zip us)) :
    Binds K (PySem.W.fnOf x qual (defArgs st) (defBody st) (defScope st) (.ref T) kV doc pm an cdv ct) ps [] := fun s us X hlen => by
  have hl : us.length = ps.length := by rw [List.append_nil] at hlen; exact hlen
  obtain ⟨k, e1, e2⟩ := h us hl
  refine BindsTo.of_looks fun M => ?_
  rw [e1]
  refine looks_items X l rfl (.of_pure ?_)
  rw [List.append_nil]
  exact e2
theorem fn_IV {x qual : Str} {st : Stmt} {f C : Addr} {fd : FuncData} {N ps : List Str} {k m : Nat} {T : DIp} (F : FunV K x qual st f fd) (S : FnScope N ps (defScope st)) (hm : ps.length = m + 1)
    (hbody : ∀ (X : Cx) (outer : List Env) (cdv : Value) (A : Around) (s : Shared) (H : Hp) (E : L2.XK), X = (cxOf CX0 P w K mg base N qual (defScope st) f cdv A outer s H E).nox → Room k X.A → ∃ T', XSs (cxOf CX0 P w K mg base N qual (defScope st) f cdv A outer s H E).nox b (defBody st) T' ∧
      ∀ (l : Addr) (ds : List Dt) (R : List (Str × Dt) → Prop), ds.length = m → T ds R → T' { nx := fun γ => ∃ fs, gat γ 0 = .obj l (.ins C fs) ∧ R fs, rt := fun γ d => d = .non ∧ ∃ fs, gat γ 0 = .obj l (.ins C fs) ∧ R fs } (startI N l C ds)) :
    FnOk P w K mg base CX0 (k + 1) f fd ps (spI b C m T) := by
  refine F.ok S (fun vs H Q E h => ?_) (fun cdv A outer s H vs Q E hr h => ?_)
  · obtain ⟨l, dx, ws, F0, H1, ds, R, rfl, _, _, _, _, _, h2, h3, _⟩ := h
    rw [List.length_cons, h2.length, h3, hm]
  · obtain ⟨l, dx, ws, F0, H1, ds, R, rfl, rfl, hx, hdx, hne, h1, h2, h3, h4, h5⟩ := h
    obtain ⟨T', ⟨t, t1, t2⟩, t3⟩ := hbody _ outer cdv A s _ E rfl hr
    have n1 : Nv b F0 F0 H1 F0 H1 (L2.start N (.non :: ws)) (startD N (.non :: ds)) := start_nv (Fm := F0) h1 (.cons .non h2)
    have x1 : Ext b F0 H1 F0 (upd H1 dx (.own l)) := Ext.laid h1 hdx
    have hx2 : (upd H1 dx (.own l)) l = none := by rw [upd_ne hne.symm]; exact hx
    have x2 : Ext b F0 (upd H1 dx (.own l)) F0 (upd (upd H1 dx (.own l)) l (.ins C dx [])) := Ext.laid x1.ok hx2
    have n2 := (n1.to x1).to x2
    have n3 : Nv b F0 F0 H1 F0 (upd (upd H1 dx (.own l)) l (.ins C dx [])) (L2.start N (.ref l :: ws)) (startI N l C ds) :=
      n2.setObj 0 (l := l) (u := .ins C dx []) (d := .ins C []) upd_same (.ins .nil) (h1.fF hx) hx (h1.nb hx) fun j a hj => by rw [start_adr] at hj; cases hj
    have fin : ∀ {F' H' : Hp} {σ : L2.St} {γ : Gm}, Nv b F0 F0 H1 F' H' σ γ → (∃ fs, gat γ 0 = .obj l (.ins C fs) ∧ R fs) → Q .non H' := fun {F' H' σ γ} n ⟨fs, g, r⟩ => by
      have hs := n.slot 0
      rw [g] at hs
      obtain ⟨u, _, a2, a3, a4, _, _⟩ := hs
      cases a3 with
      | ins rr => exact h5 _ _ _ _ fs n.ext a2 a4 rr r
    refine ⟨t, t1, t2 _ n3 (t3 l ds R h3 h4) _ ⟨?_, ?_, ?_, ?_⟩⟩
    · intro F' H' σ γ n r
      exact fin n r
    · intro F' H' σ γ v d n r p
      obtain ⟨rfl, p⟩ := p
      cases r
      exact fin n p
    · intro F' H' σ γ n r
      exact r.elim
    · intro F' H' σ γ n r
      exact r.elim
theorem fn_DV {x qual : Str} {st : Stmt} {f : Addr} {fd : FuncData} {N ps : List Str} {k : Nat} {T : DSp} (F : FunV K x qual st f fd) (S : FnScope N ps (defScope st))
    (hbody : ∀ (X : Cx) (outer : List Env) (cdv : Value) (A : Around) (s : Shared) (H : Hp) (E : L2.XK), X = (cxOf CX0 P w K mg base N qual (defScope st) f cdv A outer s H E).nox → Room k X.A → ∃ T', XSs (cxOf CX0 P w K mg base N qual (defScope st) f cdv A outer s H E).nox b (defBody st) T' ∧ ∀ (ds : List Dt) (R : Dt → Prop), ds.length = ps.length → T ds R → T' { nx := fun _ => R .non, rt := fun _ => R } (startD N ds)) :
    FnOk P w K mg base CX0 (k + 1) f fd ps (spD b ps.length T) := by
  refine F.ok S (fun vs H Q E h => ?_) (fun cdv A outer s H vs Q E hr h => ?_)
  · obtain ⟨F0, ds, R, h1, h2, h3, _⟩ := h
    rw [h2.length, h3]
  · obtain ⟨F0, ds, R, h1, h2, h3, h4, h5⟩ := h
    obtain ⟨T', ⟨t, t1, t2⟩, t3⟩ := hbody _ outer cdv A s H E rfl hr
    refine ⟨t, t1, t2 _ (start_nv (Fm := F0) h1 h2) (t3 ds R h3 h4) _ ⟨?_, ?_, ?_, ?_⟩⟩
    · intro F' H' σ γ n r
      exact h5 _ _ _ _ n.ext .non r
    · intro F' H' σ γ v d n r p
      exact h5 _ _ _ _ n.ext r p
    · intro F' H' σ γ n r
      exact r.elim
    · intro F' H' σ γ n r
      exact r.elim
end
end DL

namespace DL
open PySem PySem.Spec PySem.Calls PyProof.Rows L2
/-! `*a, b = e` and its kin: one starred target among several -/
section
variable {prog : Program} {w : World} {A : Around} {E : Value → Shared → Prop} {s : Shared}
theorem unstarT {l : Addr} {items : Array Value} {n i : Nat} {Q : List Value → Shared → Prop} (hl : IsTup s.heap l items) (hh : A.handled = none) (hi : i < n) (hn : n ≤ items.size + 1) (hz : items.size ≤ 16384)
    (h : ∀ (h' : Heap) (tk : Nat), (∀ b o, s.heap.get? b = some o → h'.get? b = some o) → Q (items.toList.take i ++ [.ref h'.objs.size] ++ (items.toList.drop i).drop (items.size + 1 - n)) { s with heap := h'.push { cls := .type "list", data := .seq ((items.toList.drop i).take (items.size + 1 - n)).toArray }, toks := tk }) :
    wpAny (model prog w) A (unpackItems (.ref l) n (some i)) Q E s := by
  have hlt : l ≠ s.heap.objs.size := by obtain ⟨o, ho, _⟩ := hl; exact Nat.ne_of_lt (Heap.lt_size ho)
  unfold unpackItems
  refine wpAny_bind ?_
  unfold notIterableAtAll
  refine wpAny_bind (wpAny_specialOf hl.typeIs slot_tuple_iter.lookup ?_)
  refine wpAny_pure ?_
  simp only [Bool.false_eq_true, if_false]
  refine wpAny_bind (wpAny_holding (iter_tuple hl ?_))
  refine wpAny_bind (wpAny_holding (draw_tuple hlt i 0 _ _ ⟨_, Heap.get?_push_size _ rfl, rfl, rfl⟩ (hl.push _) (by omega) fun h₁ hit₁ hs₁ => ?_))
  have hl₁ : IsTup h₁ l items := (hl.push _).extBut hs₁.extBut hlt
  rw [Nat.zero_add] at hit₁
  have hit₁' := hit₁
  obtain ⟨oi, hoi, _⟩ := hit₁'
  have hl₁' := hl₁
  obtain ⟨ol, hol, _⟩ := hl₁'
  rw [List.drop_zero]
  have hfl : (items.toList.take i).length = i := by rw [List.length_take, Array.length_toList]; omega
  rw [if_neg (show ¬ ((items.toList.take i).length < i) by rw [hfl]; omega)]
  refine wpAny_bind (wpAny_holding (PySem.W.kun_collect (s := { s with heap := h₁ }) (T := "tuple_iterator") (.inr (.inr (.inr rfl))) (Walks.tuple (A := A.in1) hh s.heap.objs.size l hlt items) (fun j u st => st.1.typeIs) (k := i) (by omega) ⟨hit₁, hl₁⟩ (Heap.lt_size hoi) (Heap.lt_size hol) (fun h₂ tk hk => ?_) (by rw [sizeLine_eq]; omega)))
  have hrl : (items.toList.drop i).length = items.size - i := by rw [List.length_drop, Array.length_toList]
  have hmid : (items.toList.drop i).length - (n - 1 - i) = items.size + 1 - n := by rw [hrl]; omega
  show wpAny _ _ (if (items.toList.drop i).length < n - 1 - i then _ else _) _ _ _
  rw [if_neg (by rw [hrl]; omega)]
  show wpAny _ _ (newList ((items.toList.drop i).take ((items.toList.drop i).length - (n - 1 - i))) >>= fun d => pure (items.toList.take i ++ [d] ++ (items.toList.drop i).drop ((items.toList.drop i).length - (n - 1 - i)))) _ _ _
  rw [hmid]
  have he : ∀ b o, s.heap.get? b = some o → h₂.get? b = some o := fun b o e => hk b o (Nat.ne_of_lt (Heap.lt_size e)) (hs₁.extBut b o (Nat.ne_of_lt (Heap.lt_size e)) (Heap.get?_push_of_some _ e))
  exact wpAny_bind (wpAny_newList (s := { s with heap := h₂, toks := tk }) (wpAny_pure (h h₂ tk he)) (by rw [List.length_take, hrl, sizeLine_eq]; omega))
theorem unstarL {l : Addr} {items : Array Value} {n i : Nat} {Q : List Value → Shared → Prop} (hl : s.heap.IsList l items) (hh : A.handled = none) (hi : i < n) (hn : n ≤ items.size + 1) (hz : items.size ≤ 16384)
    (h : ∀ (h' : Heap) (tk : Nat), (∀ b o, s.heap.get? b = some o → h'.get? b = some o) → Q (items.toList.take i ++ [.ref h'.objs.size] ++ (items.toList.drop i).drop (items.size + 1 - n)) { s with heap := h'.push { cls := .type "list", data := .seq ((items.toList.drop i).take (items.size + 1 - n)).toArray }, toks := tk }) :
    wpAny (model prog w) A (unpackItems (.ref l) n (some i)) Q E s := by
  have hlt : l ≠ s.heap.objs.size := by obtain ⟨o, ho, _⟩ := hl; exact Nat.ne_of_lt (Heap.lt_size ho)
  unfold unpackItems
  refine wpAny_bind ?_
  unfold notIterableAtAll
  refine wpAny_bind (wpAny_specialOf hl.typeIs slot_list_iter.lookup ?_)
  refine wpAny_pure ?_
  simp only [Bool.false_eq_true, if_false]
  refine wpAny_bind (wpAny_holding (wpAny_pyIter_list hl ?_))
  refine wpAny_bind (wpAny_holding (PySem.W.kun_draw hlt i 0 _ _ ⟨_, Heap.get?_push_size _ rfl, rfl, rfl⟩ (hl.push _) (by omega) fun h₁ hit₁ hs₁ => ?_))
  have hl₁ : h₁.IsList l items := (hl.push _).extBut hs₁.extBut hlt
  rw [Nat.zero_add] at hit₁
  have hit₁' := hit₁
  obtain ⟨oi, hoi, _⟩ := hit₁'
  have hl₁' := hl₁
  obtain ⟨ol, hol, _⟩ := hl₁'
  rw [List.drop_zero]
  have hfl : (items.toList.take i).length = i := by rw [List.length_take, Array.length_toList]; omega
  rw [if_neg (show ¬ ((items.toList.take i).length < i) by rw [hfl]; omega)]
  refine wpAny_bind (wpAny_holding (PySem.W.kun_collect (s := { s with heap := h₁ }) (T := "list_iterator") (.inr (.inr (.inl rfl))) (Walks.list (A := A.in1) hh s.heap.objs.size l hlt items) (fun j u st => st.1.typeIs) (k := i) (by omega) ⟨hit₁, hl₁⟩ (Heap.lt_size hoi) (Heap.lt_size hol) (fun h₂ tk hk => ?_) (by rw [sizeLine_eq]; omega)))
  have hrl : (items.toList.drop i).length = items.size - i := by rw [List.length_drop, Array.length_toList]
  have hmid : (items.toList.drop i).length - (n - 1 - i) = items.size + 1 - n := by rw [hrl]; omega
  show wpAny _ _ (if (items.toList.drop i).length < n - 1 - i then _ else _) _ _ _
  rw [if_neg (by rw [hrl]; omega)]
  show wpAny _ _ (newList ((items.toList.drop i).take ((items.toList.drop i).length - (n - 1 - i))) >>= fun d => pure (items.toList.take i ++ [d] ++ (items.toList.drop i).drop ((items.toList.drop i).length - (n - 1 - i)))) _ _ _
  rw [hmid]
  have he : ∀ b o, s.heap.get? b = some o → h₂.get? b = some o := fun b o e => hk b o (Nat.ne_of_lt (Heap.lt_size e)) (hs₁.extBut b o (Nat.ne_of_lt (Heap.lt_size e)) (Heap.get?_push_of_some _ e))
  exact wpAny_bind (wpAny_newList (s := { s with heap := h₂, toks := tk }) (wpAny_pure (h h₂ tk he)) (by rw [List.length_take, hrl, sizeLine_eq]; omega))
end
section
variable {X : Cx} {b : Bg} {e : Expr} {es : List Expr} {pos : Pos}
def gStar (K : PySem.W.Frag) (n i : Nat) (t : TGs) : TG := fun v σ H Q => ∃ a xs, v = V.ref a ∧ (SqT K H a xs ∨ SqL K H a xs) ∧ n ≤ xs.length + 1 ∧ xs.length ≤ 16384 ∧ ∀ D, H D = none → t (xs.take i ++ [V.ref D] ++ (xs.drop i).drop (xs.length + 1 - n)) σ (upd H D (.lst ((xs.drop i).take (xs.length + 1 - n)))) Q
theorem pg_star {k n i : Nat} {p : Pos} {t : TGs} (hc : X.calm = true) (h : PGs X es t) (hi : i < n) (hn : (assignEach es X.env).length = n) (hst : (assignEach es X.env).findIdx? (·.1) = some i) : PG X (.Tuple es k p) (gStar X.K n i t) := by
  refine ⟨fun pins s σ H v u Q I r hw => ?_⟩
  obtain ⟨a, xs, e1, hq, hl, hz, hw⟩ := hw
  subst e1
  cases r
  rw [assign_Tuple]
  refine wpAny_bind (wpAny_standAt ?_)
  unfold unpack
  rw [hn, hst]
  have fin : ∀ (its : List Value), Vals xs its → ∀ (h' : Heap) (tk : Nat), (∀ b o, s.heap.get? b = some o → h'.get? b = some o) →
      wpAny (model X.prog X.w) X.A (assignInOrder ((assignEach es X.env).map (·.2)) (its.toArray.toList.take i ++ [.ref h'.objs.size] ++ (its.toArray.toList.drop i).drop (its.toArray.size + 1 - n))) (fun _ s' => ∃ σ' H', Inv X pins σ' H' s' ∧ Q σ' H') X.xe
        { s with heap := h'.push { cls := .type "list", data := .seq ((its.toArray.toList.drop i).take (its.toArray.size + 1 - n)).toArray }, toks := tk } := fun its rv h' tk kp => by
    have hsz : its.toArray.size = xs.length := by rw [List.size_toArray]; exact rv.length.symm
    rw [hsz]
    have I1 : Inv X pins σ H { s with heap := h', toks := tk } := I.kept kp
    have I2 := I1.laid (t' := tk) (a := h'.objs.size) (o := .lst ((xs.drop i).take (xs.length + 1 - n))) (h' := h'.push { cls := .type "list", data := .seq ((its.drop i).take (xs.length + 1 - n)).toArray }) (fun b u e => Heap.get?_push_of_some _ e) (Nat.le_refl _)
      (show ObjOk X.prog X.w _ _ _ (.lst _) from ⟨by rw [List.length_take, List.length_drop, sizeLine_eq]; omega, _, 0, (rv.drop i).take _, Heap.get?_push_size _ rfl⟩)
    refine h.run pins _ σ _ _ _ Q I2 ?_ (hw _ (I1.hok.fresh (Nat.le_refl _)))
    exact ((rv.take i).append (show Vals [V.ref h'.objs.size] [Value.ref h'.objs.size] from .cons rfl .nil)).append ((rv.drop i).drop _)
  rcases hq with hq | hq
  · obtain ⟨its, rv, ht, _⟩ := I.tuple hq
    have hsz : its.toArray.size = xs.length := by rw [List.size_toArray]; exact rv.length.symm
    exact wpAny_bind (wpAny_holding (unstarT ht (I.ok.hd hc) hi (by rw [hsz]; exact hl) (by rw [hsz]; exact hz) (fin its rv)))
  · obtain ⟨its, rv, ht, _⟩ := I.list hq
    have hsz : its.toArray.size = xs.length := by rw [List.size_toArray]; exact rv.length.symm
    exact wpAny_bind (wpAny_holding (unstarL ht.isList (I.ok.hd hc) hi (by rw [hsz]; exact hl) (by rw [hsz]; exact hz) (fin its rv)))
theorem pgs_star {e0 : Expr} {t : TG} {u : TGs} (h1 : PG X e t) (h2 : PGs X es u)
    (hs : (assignEach (e0 :: es) X.env).map (·.2) = assign e X.env :: (assignEach es X.env).map (·.2) := by rfl) : PGs X (e0 :: es) (gCons t u) := by
  constructor
  intro pins s σ H vs us Q I r ⟨v, vr, e1, h⟩
  subst e1
  cases r with
  | cons ra rb =>
    rw [hs]
    exact assignInOrder_cons (thn (h1.run pins s σ H _ _ _ I ra h) fun _ s1 ⟨σ1, H1, I1, q1⟩ => h2.run pins s1 σ1 H1 _ _ _ I1 rb q1)
theorem gs_star {e0 : Expr} {js ks : List Nat} {T : Dt → Gm → (Gm → Prop) → Prop} {U : List Dt → Gm → (Gm → Prop) → Prop} (h : XG X b e T js) (g : XGs X b es U ks) (hs : (assignEach (e0 :: es) X.env).map (·.2) = assign e X.env :: (assignEach es X.env).map (·.2) := by rfl) : XGs X b (e0 :: es) (gsCons T U) (js ++ ks) := by
  obtain ⟨_, h1, h2⟩ := h; obtain ⟨_, g1, g2⟩ := g
  refine ⟨_, pgs_star h1 g1 hs, fun {Fm F0 H0 F H σ γ} P {vs ds} n r t Q q => ?_⟩
  cases r with
  | nil => exact t.elim
  | cons ra rb => exact ⟨_, _, rfl, h2 _ n ra t _ fun σ1 γ1 n1 l1 s1 t1 => g2 _ n1 rb t1 _ fun σ2 γ2 n2 l2 s2 t2 => q σ2 γ2 n2 (l2.trans l1) (fun i hi => by rw [s2 i fun z => hi (List.mem_append_right _ z), s1 i fun z => hi (List.mem_append_left _ z)]) t2⟩
theorem RepL.takeD {F : Hp} : ∀ {vs : List V} {ds : List Dt} (k : Nat), RepL b F vs ds → RepL b F (vs.take k) (ds.take k)
  | _, _, 0, _ => by rw [List.take_zero, List.take_zero]; exact .nil
  | _, _, k + 1, .nil => by rw [List.take_nil, List.take_nil]; exact .nil
  | _, _, k + 1, .cons r t => by rw [List.take_succ_cons, List.take_succ_cons]; exact .cons r (RepL.takeD k t)
theorem RepL.dropD {F : Hp} : ∀ {vs : List V} {ds : List Dt} (k : Nat), RepL b F vs ds → RepL b F (vs.drop k) (ds.drop k)
  | _, _, 0, h => by rw [List.drop_zero, List.drop_zero]; exact h
  | _, _, k + 1, .nil => by rw [List.drop_nil, List.drop_nil]; exact .nil
  | _, _, k + 1, .cons r t => by rw [List.drop_succ_cons, List.drop_succ_cons]; exact RepL.dropD k t
theorem RepL.appD {F : Hp} : ∀ {vs ws : List V} {ds es : List Dt}, RepL b F vs ds → RepL b F ws es → RepL b F (vs ++ ws) (ds ++ es)
  | _, _, _, _, .nil, h => h
  | _, _, _, _, .cons r t, h => .cons r (RepL.appD t h)
/-- what a starred target's kin are given: the i-th gets a list -/
@[reducible] def stD (n i : Nat) (xs : List Dt) : List Dt := xs.take i ++ [.lst ((xs.drop i).take (xs.length + 1 - n))] ++ (xs.drop i).drop (xs.length + 1 - n)
@[reducible] def sStar (n i : Nat) (Ta : DT) (U : List Dt → Gm → (Gm → Prop) → Prop) : DSt := fun E γ => Ta γ fun d => match d with
  | .lst xs => n ≤ xs.length + 1 ∧ xs.length ≤ 16384 ∧ U (stD n i xs) γ E.nx
  | .tup xs => n ≤ xs.length + 1 ∧ xs.length ≤ 16384 ∧ U (stD n i xs) γ E.nx
  | _ => False
theorem s_star {k n i : Nat} {p : Pos} {js : List Nat} {U : List Dt → Gm → (Gm → Prop) → Prop} {Ta : DT} (hc : X.calm = true) (ha : XE X b e Ta) (h : XGs X b es U js) (hi : i < n) (hn : (assignEach es X.env).length = n := by rfl) (hst : (assignEach es X.env).findIdx? (·.1) = some i := by rfl)
    (hs : swapsWithSole [.Tuple es k p] e pos.line X.env = pure false := by rfl) (hw : swappedStores [.Tuple es k p] e X.env = pure none := by rfl) (hh : (assignEach [.Tuple es k p] X.env).map (·.2) = [assign (.Tuple es k p) X.env] := by rfl) :
    XS X b (.Assign [.Tuple es k p] e pos) (sStar n i Ta U) := by
  obtain ⟨_, h1, h2⟩ := ha; obtain ⟨_, g1, g2⟩ := h
  refine ⟨_, ps_asg h1 (pg_star hc g1 hi hn hst) hs hw hh, fun E nv t D kk => h2 _ nv t _ fun v d F' H' x r q => ?_⟩
  have fin : ∀ (a : Addr) (vs : List V) (xs : List Dt), (SqT X.K H' a vs ∨ SqL X.K H' a vs) → RepL b F' vs xs → n ≤ xs.length + 1 → xs.length ≤ 16384 → U (stD n i xs) _ E.nx → gStar X.K n i _ (.ref a) _ H' D.nx := fun a vs xs hq rr l1 l2 u => by
    have hl : vs.length = xs.length := rr.length
    refine ⟨a, vs, rfl, hq, by rw [hl]; exact l1, by rw [hl]; exact l2, fun A hA => ?_⟩
    rw [hl]
    have x2 := Ext.laid (o := .lst ((vs.drop i).take (xs.length + 1 - n))) x.ok hA
    have hF : F' A = none := x.ok.fF hA
    have x3 := x2.take hA (x.ok.nb hA) upd_same
    have up : ∀ {a : Addr} {o : HO}, F' a = some o → (upd F' A (.lst ((vs.drop i).take (xs.length + 1 - n)))) a = some o := fun {a o} z => by rw [upd_ne (ne_of_none z hF)]; exact z
    have rr2 := RepL.mono (fun c o z => up z) rr
    refine g2 _ ((nv.to x).to x3) (RepL.appD (RepL.appD (RepL.takeD i rr2) (.cons (.lst upd_same (RepL.takeD _ (RepL.dropD i rr2))) .nil)) (RepL.dropD _ (RepL.dropD i rr2))) u _ fun σ' γ' n' _ _ p' => kk.nx n' p'
  cases r <;> first | exact q.elim | skip
  · rename_i hh r
    exact fin _ _ _ (.inr (SqL.of (x.ok.1 _ _ hh))) r q.1 q.2.1 q.2.2
  · rename_i hh r
    exact fin _ _ _ (.inl (SqT.of (x.ok.1 _ _ hh))) r q.1 q.2.1 q.2.2
end
end DL

namespace DL
open PySem PySem.Spec PySem.Calls PyProof.Rows L2
section
variable {X : Cx} {b : Bg} {e : Expr} {es : List Expr} {pos : Pos}
theorem pe_or {t u : TE} (h : PE X e t) (g : PE X e u) : PE X e (fun σ H Q => t σ H Q ∨ u σ H Q) := ⟨fun pins s σ H Q I q => q.elim (h.run pins s σ H Q I) (g.run pins s σ H Q I)⟩
/-- a slice of what stands in a slot, a tuple or a list -/
@[reducible] def dSlN (i : Nat) (Tl Th : Gm → (Option Int → Prop) → Prop) : DT := fun γ P => match gat γ i with
  | .val (.tup z) => Tl γ fun lo => Th γ fun hi => P (.tup (cutD z lo hi))
  | .val (.lst z) => Tl γ fun lo => Th γ fun hi => P (.lst (cutD z lo hi))
  | _ => False
theorem x_slN (i : Nat) {x : Str} {p1 : Pos} {lo hi : Option Expr} {p2 : Pos} {Tl Th : Gm → (Option Int → Prop) → Prop} (hl : XO X b lo Tl) (hh : XO X b hi Th) (hN : X.N[i]? = some x := by rfl) (hv : Vis X.env.scope x := by first | exact Or.inl rfl | exact Or.inr (Or.inl rfl) | exact Or.inr (Or.inr rfl)) (hd : (x == ("__debug__" : Str)) = false := by decide)
    (hcd : (x == ("__classdict__" : Str)) = false := by decide) : XE X b (.Subscript (.Name x p1) (.Slice lo hi none p2) pos) (dSlN i Tl Th) := by
  have hx : XE X b (.Name x p1) (dVar i) := xv i hN hv hd hcd
  obtain ⟨t1, h1, d1⟩ := x_slT (pos := pos) (p2 := p2) hx hl hh
  obtain ⟨t2, h2, d2⟩ := x_l (l_sl (pos := pos) (p2 := p2) hx hl hh)
  refine ⟨_, pe_or h1 h2, fun {Fm F0 H0 F H σ γ} P n t Q q => ?_⟩
  unfold dSlN at t
  cases e : gat γ i with
  | val d =>
    rw [e] at t
    cases d with
    | tup z =>
      refine .inl (d1 P n ?_ Q q)
      show (match gat γ i with | .val d => _ | _ => False)
      rw [e]
      exact t
    | lst z =>
      refine .inr (d2 P n ?_ Q q)
      show (match gat γ i with | .val d => _ | _ => False)
      rw [e]
      exact t
    | _ => exact t.elim
  | _ => rw [e] at t; exact t.elim
end
end DL

namespace DL
open PySem PySem.Spec PyProof.Rows L2
/-! ### exceptions -/
/-- an exception: its class, its fields -/
abbrev Xd := Addr × List (Str × Dt)
/-- in the air at H: an exception x, its dict new since H0 -/
def RepX (b : Bg) (F H0 H : Hp) (cls : Value) (d : Option Addr) (x : Xd) : Prop := cls = .ref x.1 ∧ ∃ (dx : Addr) (vs : List (Str × V)), d = some dx ∧ H dx = some (.xd vs) ∧ H0 dx = none ∧ F dx = none ∧ RepF b F vs x.2
/-- what is raised here is taken if R tells of it -/
structure XM (X : Cx) (b : Bg) (F0 H0 : Hp) (R : Xd → Prop) : Prop where
  ex : ∃ E : L2.XK, Takes X (fun cls d _ H => E cls d H) ∧ ∀ {F H : Hp} {cls : Value} {d : Option Addr} {x : Xd}, Ext b F0 H0 F H → RepX b F H0 H cls d x → R x → E cls d H
  po : PassesOwn (model X.prog X.w) X.A X.env X.xe
def DEx (b : Bg) (F0 H0 : Hp) (te : TE) (T : DT) : Prop := ∀ {Fm F H : Hp} {σ : L2.St} {γ : Gm} (P : Dt → Prop), Nv b Fm F0 H0 F H σ γ → T γ P → ∀ Q : VK, (∀ v d F' H', Ext b F H F' H' → Rep b F' v d → P d → Q v H') → te σ H Q
structure XEx (X : Cx) (b : Bg) (F0 H0 : Hp) (e : Expr) (T : DT) : Prop where
  ex : ∃ te, PE X e te ∧ DEx b F0 H0 te T
def DSx (b : Bg) (F0 H0 : Hp) (ts : TS) (T : DSt) : Prop := ∀ {Fm F H : Hp} {σ : L2.St} {γ : Gm} (E : De), Nv b Fm F0 H0 F H σ γ → T E γ → ∀ D : Ends, EndsOk b Fm F0 H0 D E → ts D σ H
structure XSx (X : Cx) (b : Bg) (F0 H0 : Hp) (st : Stmt) (T : DSt) : Prop where
  ex : ∃ te, PS X st te ∧ DSx b F0 H0 te T
structure XSSx (X : Cx) (b : Bg) (F0 H0 : Hp) (st : List Stmt) (T : DSt) : Prop where
  ex : ∃ te, PSs X st te ∧ DSx b F0 H0 te T
abbrev DSpX := List Dt → (Dt → Prop) → (Xd → Prop) → Prop
/-- what a def promises that may raise -/
def spDX (b : Bg) (m : Nat) (T : DSpX) : Sp := fun vs H Q E => ∃ (F : Hp) (ds : List Dt) (P : Dt → Prop) (R : Xd → Prop), Ok b F H ∧ RepL b F vs ds ∧ ds.length = m ∧ T ds P R ∧
  (∀ v d F' H', Ext b F H F' H' → Rep b F' v d → P d → Q v H') ∧ ∀ cls d x F' H', Ext b F H F' H' → RepX b F' H H' cls d x → R x → E cls d H'
/-- as one that raises nothing -/
theorem FnOk.calm {P : Program} {w : World} {K : PySem.W.Frag} {mg : Str → Option Value} {base : Heap} {k : Nat} {f : Addr} {fd : FuncData} {ps : List Str} {b : Bg} {m : Nat} {T : DSpX} {T' : DSp}
    (F : FnOk P w K mg base (L2.CX P w) k f fd ps (spDX b m T)) (h : ∀ ds Q, T' ds Q → T ds Q fun _ => False) : FnOk P w K mg base CX0 k f fd ps (spD b m T') := by
  have up : ∀ vs H Q (E : L2.XK), spD b m T' vs H Q E → spDX b m T vs H Q (fun _ _ _ => False) := fun vs H Q E ⟨F0, ds, P0, h1, h2, h3, h4, h5⟩ =>
    ⟨F0, ds, P0, fun _ => False, h1, h2, h3, h ds P0 h4, h5, fun _ _ _ _ _ _ _ z => z⟩
  refine ⟨fun vs H Q E q => F.len _ _ _ _ (up vs H Q E q), fun A outer s H args us vs Q E hr he hb hv hs => ?_⟩
  refine codeAny_mono (F.run A outer s H args us vs Q _ hr he hb hv (up vs H Q E hs)) fun r s' q => ?_
  cases r with
  | error e =>
    obtain ⟨_, _, _, _, _, _, _, _, _, _, _, _, z⟩ := q
    exact z.elim
  | ok fl =>
    cases fl with
    | ret u => exact q
    | next => exact q
    | brk => exact q
    | cont => exact q
section
variable {X : Cx} {b : Bg} {F0 H0 : Hp} {R : Xd → Prop} {e e1 e2 e3 o tg : Expr} {es : List Expr} {pos : Pos} {st : Stmt} {Ta Tb To : DT} {Tas Tk : DAt} {t u : DSt}
theorem XE.x (h : XE X b e Ta) : XEx X b F0 H0 e Ta := by
  obtain ⟨te, h1, h2⟩ := h
  exact ⟨te, h1, fun P n t Q q => h2 P n t Q q⟩
theorem XS.x (h : XS X b st t) : XSx X b F0 H0 st t := by
  obtain ⟨te, h1, h2⟩ := h
  exact ⟨te, h1, fun E n t D k => h2 E n t D k⟩
theorem XSs.x {r : List Stmt} (h : XSs X b r t) : XSSx X b F0 H0 r t := by
  obtain ⟨te, h1, h2⟩ := h
  exact ⟨te, h1, fun E n t D k => h2 E n t D k⟩
theorem ssx_nil : XSSx X b F0 H0 [] sNext := ss_nil.x
theorem ssx_one (h : XSx X b F0 H0 st t) : XSSx X b F0 H0 [st] t := by
  obtain ⟨_, h1, h2⟩ := h
  exact ⟨_, pss_one h1, h2⟩
theorem ssx_cons {r : List Stmt} (h : XSx X b F0 H0 st t) (g : XSSx X b F0 H0 r u) : XSSx X b F0 H0 (st :: r) (sSeq t u) := by
  obtain ⟨_, h1, h2⟩ := h; obtain ⟨_, g1, g2⟩ := g
  exact ⟨_, pss_cons h1 g1, fun E n t D k => h2 _ n t _ ⟨fun n' t' => g2 _ n' t' D k, k.rt, k.bk, k.ct⟩⟩
theorem sx_if {c : Expr} {p q : List Stmt} {A : DBt} (hc : XT X b c A) (h : XSSx X b F0 H0 p t) (g : XSSx X b F0 H0 q u) : XSx X b F0 H0 (.If c p q pos) (sIf A t u) := by
  obtain ⟨_, c1, c2⟩ := hc; obtain ⟨_, h1, h2⟩ := h; obtain ⟨_, g1, g2⟩ := g
  refine ⟨_, ps_if c1 h1 g1, fun E n t D k => c2 _ n t _ fun c F' H' x p => ?_⟩
  cases c with
  | true => exact iteT (h2 E (n.to x) p D k)
  | false => exact iteF (g2 E (n.to x) p D k)
theorem sx_ret (h : XEx X b F0 H0 e Ta) : XSx X b F0 H0 (.Return (some e) pos) (sRet Ta) := by
  obtain ⟨_, h1, h2⟩ := h
  exact ⟨_, ps_ret h1, fun E n t D k => h2 _ n t _ fun v d F' H' x r p => k.rt (n.to x) r p⟩
theorem sx_expr (h : XEx X b F0 H0 e Ta) (hs : swapsWith e none pos.line X.env = pure false := by rfl) : XSx X b F0 H0 (.Expr e pos) (sDrop Ta) := by
  obtain ⟨_, h1, h2⟩ := h
  exact ⟨_, ps_expr h1 hs, fun E n t D k => h2 _ n t _ fun v d F' H' x r p => k.nx (n.to x) p⟩
theorem sx_set {i : Nat} {x : Str} {p2 : Pos} (hN : X.N.Nodup) (hi : X.N[i]? = some x) (hx : Loc X.env.scope x) (h : XEx X b F0 H0 e Ta) (hs : swapsWith e (some (.Name x p2)) pos.line X.env = pure false := by rfl) (hf : X.fn x = true ∨ X.env.scope.names.lookup x = some .local := by first | exact .inl rfl | exact .inr rfl | assumption) :
    XSx X b F0 H0 (.Assign [.Name x p2] e pos) (sSet i Ta) := by
  obtain ⟨_, h1, h2⟩ := h
  exact ⟨_, ps_set hN hi hx h1 hs hf, fun E n t D k => h2 _ n t _ fun v d F' H' x r p => k.nx ((n.to x).set i r) p⟩
theorem sx_for {iter : Expr} {body : List Stmt} {js : List Nat} {TI : DAt} {Tg : Dt → Gm → (Gm → Prop) → Prop} {Tb : DSt} (hc : X.calm = true) (hi : XI X b tg iter TI) (g : XG X b tg Tg js) (h : XSSx X b F0 H0 body Tb) (hp : PassesOwn (model X.prog X.w) X.A X.env X.xe) (hs : ∀ x, foldedSetIterable iter X.env x = pure x := by intro _; rfl) :
    XSx X b F0 H0 (.For tg iter body [] pos) (sFor TI Tg Tb) := by
  obtain ⟨_, i1, i2⟩ := hi; obtain ⟨_, g1, g2⟩ := g; obtain ⟨_, h1, h2⟩ := h
  refine ⟨_, ps_for hp hc i1 g1 h1 hs, fun {Fm F H σ γ} E n t D k => i2 _ n t _ fun J xs Fx H1 x1 w t1 => ?_⟩
  obtain ⟨Iv, i0, is, id⟩ := t1
  obtain ⟨Y, wk, wy⟩ := w.ex
  have fmx : Sub Fm Fx := n.fm.trans x1.grow
  have down : ∀ {F' H' : Hp} {σ' : L2.St} {γ' : Gm}, Nv b Fx F0 H0 F' H' σ' γ' → Nv b Fm F0 H0 F' H' σ' γ' := fun n' => ⟨n'.ok0, fmx.trans n'.fm, n'.ext, n'.len, n'.slot, n'.dis⟩
  refine for_it wk (Pv := fun i σ' H' => ∃ F' γ', Nv b Fx F0 H0 F' H' σ' γ' ∧ Iv i γ') ?_ ?_ ?_ ?_
  · have n1 := n.to x1
    exact ⟨Fx, γ, ⟨n1.ok0, Sub.refl _, n1.ext, n1.len, n1.slot, n1.dis⟩, i0⟩
  · rintro i σ' H' _ ⟨F', γ', n', _⟩
    exact fun a o z => n'.ok.1 a o (n'.fm a o z)
  · rintro i x σ' H' H'' hi ⟨F', γ', n', p⟩ y
    obtain ⟨d, hd, hy⟩ := wy i H' x H'' hi y
    obtain ⟨F2, x2, rx⟩ : ∃ F2, Ext b F' H' F2 H'' ∧ Rep b F2 x d := by
      rcases hy with ⟨rfl, r⟩ | ⟨T, us, ds, rfl, hT, rfl, r, rfl⟩
      · exact ⟨F', Ext.refl n'.ok, r.mono n'.fm⟩
      · exact ⟨_, Ext.push n'.ok hT, .tup upd_same (r.mono (n'.fm.trans (Ext.push n'.ok hT).grow))⟩
    refine g2 _ (n'.to x2) rx (is i d γ' hd p) _ fun σ2 γ2 n3 _ _ t3 => ?_
    exact h2 _ n3 t3 _ ⟨fun n4 p4 => ⟨_, _, n4, p4⟩, fun n4 r4 p4 => k.rt (down n4) r4 p4, fun n4 p4 => k.nx (down n4) p4, fun n4 p4 => ⟨_, _, n4, p4⟩⟩
  · rintro σ' H' ⟨F', γ', n', p⟩
    exact k.nx (down n') (id γ' p)
/-! calls of what may raise -/
theorem RepX.up {Fm F H F' H' : Hp} {σ : L2.St} {γ : Gm} {cls : Value} {d : Option Addr} {x : Xd} (n : Nv b Fm F0 H0 F H σ γ) (r : RepX b F' H H' cls d x) : RepX b F' H0 H' cls d x := by
  obtain ⟨e, dx, vs, h1, h2, h3, h4, h5⟩ := r
  exact ⟨e, dx, vs, h1, h2, n.ext.back n.ok0 h3, h4, h5⟩
@[reducible] def dCallX (m : Nat) (T : DSpX) (R : Xd → Prop) (Ta : DAt) : DT := fun γ P => Ta γ fun ds => ds.length = m ∧ T ds P R
theorem x_callX {k : Nat} {f : Addr} {fd : FuncData} {ps : List Str} {x : Str} {p : Pos} {m : Nat} {T : DSpX} (M : XM X b F0 H0 R) (F : FnOk X.prog X.w X.K X.mg X.base (L2.CX X.prog X.w) k f fd ps (spDX b m T)) (hr : Room k X.A) (hg : Gl X x) (hm : X.mg x = some (.ref f)) (hk : PySem.W.keepIn X.K (.ref f) = true) (hb : Binds X.K fd ps [])
    (ha : XA X b (e :: es) Tas) (hdb : (x == ("__debug__" : Str)) = false := by decide) (he : starEach (e :: es) X.env = (false, eval e X.env) :: starEach es X.env := by rfl) (hpl : (backTo pos (starEach es X.env)).any (·.1) = false := by rfl) : XEx X b F0 H0 (.Call (.Name x p) (e :: es) [] pos) (dCallX m T R Tas) := by
  obtain ⟨_, h1, h2⟩ := ha
  obtain ⟨E, tk, hE⟩ := M.ex
  refine ⟨_, pe_call (E := E) F hr hg hm hk hb .nil (passes_call tk fun _ _ _ _ z => z) h1 hdb he hpl, fun P n t Q q => h2 _ n t _ fun vs ds F1 H1 x1 r1 t1 => ?_⟩
  show spDX b m T (vs ++ []) H1 Q _
  rw [List.append_nil]
  exact ⟨F1, ds, P, R, x1.ok, r1, t1.1, t1.2, fun v d F' H' x r p1 => q v d F' H' (x1.trans x) r p1, fun cls d xx F' H' y r hR => hE ((n.to x1).ext.trans y) (RepX.up (n.to x1) r) hR⟩
@[reducible] def dMethX (C : Addr) (mn : Str) (m : Nat) (T : DSpX) (R : Xd → Prop) (To : DT) (Ta : DAt) : DT := fun γ P => To γ fun d => match d with | .ins C' fs => C' = C ∧ fs.lookup mn = none ∧ Ta γ (fun ds => (Dt.ins C' fs :: ds).length = m ∧ T (.ins C' fs :: ds) P R) | _ => False
theorem x_methX {k : Nat} {f C : Addr} {fd : FuncData} {ps : List Str} {mn : Str} {p : Pos} {m : Nat} {T : DSpX} {pl : Sem Bool} (M : XM X b F0 H0 R) (c : Cls X.K C) (hm : Meth X.K C mn f) (F : FnOk X.prog X.w X.K X.mg X.base (L2.CX X.prog X.w) k f fd ps (spDX b m T)) (hr : Room k X.A) (hb : Binds X.K fd ps []) (ho : XE X b o To) (ha : XA X b (e :: es) Tas)
    (hst : starEach (e :: es) X.env = (false, eval e X.env) :: starEach es X.env := by rfl) (hpl : (backTo pos (starEach es X.env)).any (·.1) = false := by rfl)
    (ht : eval (.Call (.Attribute o mn p) (e :: es) [] pos) X.env = (do
      let ov ← eval o X.env
      standAt p.atName
      let (f, first) ← holding [ov] (getMethod ov mn pl)
      callWith pos f first (backTo pos (starEach (e :: es) X.env)) (backToKw pos (keywordEach [] X.env))) := by rfl) :
    XEx X b F0 H0 (.Call (.Attribute o mn p) (e :: es) [] pos) (dMethX C mn m T R To Tas) := by
  obtain ⟨_, h1, h2⟩ := ho; obtain ⟨_, g1, g2⟩ := ha
  obtain ⟨E, tk, hE⟩ := M.ex
  refine ⟨_, pe_meth (E := E) (pl := pl) h1 c hm F hr hb .nil (passes_call tk fun _ _ _ _ z => z) g1 hst hpl ht, fun P n t Q q => h2 _ n t _ fun v d F1 H1 x1 r1 t1 => ?_⟩
  cases r1 <;> first | exact t1.elim | skip
  rename_i hh r
  obtain ⟨ec, hz, t2⟩ := t1
  subst ec
  refine ⟨_, _, _, rfl, x1.sub _ _ hh, r.no hz, g2 _ (n.to x1) t2 _ fun vs ds F2 H2 x2 r2 t3 => ?_⟩
  show spDX b m T (_ :: (vs ++ [])) H2 Q _
  rw [List.append_nil]
  exact ⟨F2, _, P, R, x2.ok, .cons (x2.mono (.ins hh r)) r2, t3.1, t3.2, fun v d F' H' x r p1 => q v d F' H' ((x1.trans x2).trans x) r p1, fun cls d xx F' H' y r hR => hE ((n.to (x1.trans x2)).ext.trans y) (RepX.up (n.to (x1.trans x2)) r) hR⟩
end
/-! ### raise C(..) -/
/-- the class at C whose __init__ stores its code and its arguments -/
def excF (code : Str) (ns : List Str) {α : Type} (s : Str → α) (vs : List α) : List (Str × α) := (ns.zip vs).reverse ++ [(("code" : Str), s code)]
/-- such an __init__ -/
def spExc (C : Addr) (code : Str) (ns : List Str) : Sp := fun vs H Q _ => ∃ (a : Addr) (ws : List V), vs = .ref a :: ws ∧ ws.length = ns.length ∧ H a = some (exo a C none) ∧ ∀ dx, H dx = none → dx ≠ a → Q .non (upd (upd H dx (exd dx (excF code ns V.str ws))) a (exo a C (some dx)))
theorem exc_gone {H : Hp} {a d : Addr} {o o0 o' o'' : HO} (ha : H a = none) (h : d ≠ a) : upd (del (upd (upd (upd H a o0) d o) a o') a) d o'' = upd H d o'' := by
  funext q
  by_cases h1 : q = d
  · subst h1
    rw [upd_same, upd_same]
  · rw [upd_ne h1, upd_ne h1]
    by_cases h2 : q = a
    · subst h2
      rw [del_same, ha]
    · rw [del_ne h2, upd_ne h2, upd_ne h1, upd_ne h2]
theorem repF_exc {b : Bg} {F : Hp} {code : Str} : ∀ {ns : List Str} {vs : List V} {ds : List Dt}, RepL b F vs ds → RepF b F (excF code ns V.str vs) (excF code ns Dt.str ds) := fun {ns vs ds} r => by
  have key : ∀ (ns : List Str) {vs : List V} {ds : List Dt}, RepL b F vs ds → RepF b F (ns.zip vs).reverse (ns.zip ds).reverse := fun ns => by
    induction ns with
    | nil =>
      intro vs ds r
      exact .nil
    | cons n ns ih =>
      intro vs ds r
      cases r with
      | nil => exact .nil
      | cons r1 r2 =>
        rw [List.zip_cons_cons, List.zip_cons_cons, List.reverse_cons, List.reverse_cons]
        exact RepF.append (ih r2) (.cons r1 .nil)
  exact RepF.append (key ns r) (.cons (.str code) .nil)
section
variable {X : Cx} {b : Bg} {F0 H0 : Hp} {R : Xd → Prop} {e : Expr} {es : List Expr} {pos pos' p : Pos} {Tas : DAt}
@[reducible] def sRaise (C : Addr) (code : Str) (ns : List Str) (R : Xd → Prop) (Ta : DAt) : DSt := fun _ γ => Ta γ fun ds => lenEq ds ns.length = true ∧ R (C, excF code ns Dt.str ds)
theorem sx_raise {x : Str} {C fI : Addr} {k : Nat} {fd : FuncData} {ps : List Str} {code : Str} {ns : List Str} (hc : X.calm = true) (M : XM X b F0 H0 R) (T : OexC X.K C) (iC : PySem.W.findIn X.K (.ref C) "__init__" = some (some (.ref fI))) (tI : PySem.W.typeIn X.K (.ref fI) = some (.type "function"))
    (F1 : FnOk X.prog X.w X.K X.mg X.base CX0 k fI fd ps (spExc C code ns)) (hr : Room (k + 1) X.A) (hb : Binds X.K fd ps []) (hg : Gl X x) (hm : X.mg x = some (.ref C)) (hns : ns.length ≤ 8) (ha : XA X b (e :: es) Tas)
    (hdb : (x == ("__debug__" : Str)) = false := by decide) (he : starEach (e :: es) X.env = (false, eval e X.env) :: starEach es X.env := by rfl) (hpl : (backTo pos (starEach es X.env)).any (·.1) = false := by rfl) :
    XSx X b F0 H0 (.Raise (some (.Call (.Name x p) (e :: es) [] pos)) none pos') (sRaise C code ns R Tas) := by
  obtain ⟨_, h1, h2⟩ := ha
  obtain ⟨E, tk, hE⟩ := M.ex
  refine ⟨_, ps_raise hc tk (pmk_oex T iC tI F1 hr hb .nil pass0 hg hm h1 hdb he hpl), fun {Fm F H σ γ} E' n t D k => h2 _ n t _ fun vs ds F1 H1 x1 r1 t1 => ?_⟩
  have hl := lenEq_len t1.1
  have hv := r1.length
  refine ⟨by omega, fun a ha => ?_⟩
  rw [List.append_nil]
  refine ⟨a, vs, rfl, by omega, upd_same, fun dx hdx hne => ⟨rfl, dx, excF code ns V.str vs, upd_same, by rw [upd_ne hne, upd_same], ?_, ?_⟩⟩
  · rw [← hdx, upd_ne hne]
  · have hd1 : H1 dx = none := by rw [← hdx, upd_ne hne]
    show E (.ref C) (some dx) _
    rw [exc_gone ha hne]
    have ed := Ext.laid (o := .xd (excF code ns V.str vs)) x1.ok hd1
    exact hE ((n.to x1).ext.trans ed) ⟨rfl, dx, _, rfl, upd_same, (n.to x1).ext.back n.ok0 hd1, x1.ok.fF hd1, repF_exc r1⟩ t1.2
end
end DL

namespace DL
open PySem PySem.Spec PyProof.Rows L2
section
variable {X : Cx} {b : Bg} {F0 H0 : Hp} {R : Xd → Prop} {pos pos' p : Pos}
/-- C(), an own exception -/
theorem pmk_oex0 {x : Str} {C fI : Addr} {k : Nat} {fd : FuncData} {ps : List Str} {sp : Sp} (T : OexC X.K C) (iC : PySem.W.findIn X.K (.ref C) "__init__" = some (some (.ref fI)))
    (tI : PySem.W.typeIn X.K (.ref fI) = some (.type "function")) (F1 : FnOk X.prog X.w X.K X.mg X.base CX0 k fI fd ps sp) (hr : Room (k + 1) X.A) (hb : Binds X.K fd ps []) (hg : Gl X x) (hm : X.mg x = some (.ref C))
    (hdb : (x == ("__debug__" : Str)) = false := by decide) :
    PMk X (.Call (.Name x p) [] [] pos) (fun _ H Q => ∀ a, H a = none → sp [.ref a] (upd H a (exo a C none))
      (fun v H2 => v = .non ∧ ∃ (d : Addr) (fs : List (Str × V)), H2 a = some (exo a C (some d)) ∧ H2 d = some (exd d fs) ∧ H d = none ∧ Q (.ref C) (some d) (upd (del H2 a) d (.xd fs))) (fun _ _ _ => False)) := by
  intro pins s σ H Q I h
  obtain ⟨nm, q, N, bs, bm, sn, sub, ab, col, dd, k0, k1, k2, k3, k5, hC, hbm⟩ := T.cls
  refine wpAny_Call_Name_kw (ld_glob I hg hm ?_ hdb)
  refine PySem.W.callWith_K0 I.kIn T.kC ?_
  show wpAny _ _ (call (.ref C) []) _ _ _
  obtain ⟨hp, g, dr, tk, os⟩ := s
  -- where the new object stands
  have big : hp.objs.size ≤ hp.objs.size + 1 := Nat.le_succ _
  have nH : H (hp.objs.size + 1) = none := I.hok.fresh big
  have promise := h (hp.objs.size + 1) nH
  have stay : ∀ b o, hp.get? b = some o →
      ((hp.push (PySem.W.kdv_tup [])).push (PySem.HandSPX.excO C hp.objs.size)).get? b = some o :=
    fun b o e => Heap.get?_push_of_some _ (Heap.get?_push_of_some _ e)
  have made : ((hp.push (PySem.W.kdv_tup [])).push (PySem.HandSPX.excO C hp.objs.size)).get? (hp.objs.size + 1)
      = some (PySem.HandSPX.excO C hp.objs.size) := by heap_get
  have I2 := I.laid (t' := tk) (a := hp.objs.size + 1) (o := exo (hp.objs.size + 1) C none)
    (h' := (hp.push (PySem.W.kdv_tup [])).push (PySem.HandSPX.excO C hp.objs.size)) stay big (exo_ok made)
  have args : Vals [V.ref (hp.objs.size + 1)] [Value.ref (hp.objs.size + 1)] := .cons rfl .nil
  have many : ([Value.ref (hp.objs.size + 1)] ++ []).length = ps.length := (F1.len _ _ _ _ promise).symm ▸ rfl
  refine wpAny_call (PySem.HandSPX.call_own F.excBase_ValueError
    (fun Y => PySem.HandSPX.refsVE_contains Y bm hbm) (I.kIn _ _ hC) (PySem.W.looks_findIn I.kIn iC)
    (fun self => PySem.W.bind_fn I.kIn self tI) (rest := []) (Nat.zero_le _)
    (codeAny_mono (F1.run _ X.stack _ _ ⟨[Value.ref (hp.objs.size + 1)], []⟩ [Value.ref (hp.objs.size + 1)] _ _ (fun _ _ _ => False)
      (hr.make C [] []) (I2.env0.make C [] []) (hb _ [Value.ref (hp.objs.size + 1)] I2.kIn many) args promise) fun r s' back => ?_))
  cases r with
  | error er => exact pass0 pins σ _ _ er s' I2 back
  | ok fl =>
    cases fl with
    | ret u =>
      obtain ⟨v, H2, os2, bare2, un2, hok2, rv, ev, d, fs, ea, ed, hd1, q2⟩ := back
      subst ev
      obtain ⟨h2, g2, d2, t2, os'⟩ := s'
      exact ⟨rv, mk_end (raises_own T.exC T.tyC) I big stay un2 hok2 os2 bare2 ea ed hd1 q2⟩
    | next => exact False.elim back
    | brk => exact False.elim back
    | cont => exact False.elim back
theorem sx_raise0 {x : Str} {C fI : Addr} {k : Nat} {fd : FuncData} {ps : List Str} {code : Str} (hc : X.calm = true) (M : XM X b F0 H0 R) (T : OexC X.K C) (iC : PySem.W.findIn X.K (.ref C) "__init__" = some (some (.ref fI))) (tI : PySem.W.typeIn X.K (.ref fI) = some (.type "function"))
    (F1 : FnOk X.prog X.w X.K X.mg X.base CX0 k fI fd ps (spExc C code [])) (hr : Room (k + 1) X.A) (hb : Binds X.K fd ps []) (hg : Gl X x) (hm : X.mg x = some (.ref C))
    (hdb : (x == ("__debug__" : Str)) = false := by decide) :
    XSx X b F0 H0 (.Raise (some (.Call (.Name x p) [] [] pos)) none pos') (sRaise C code [] R aNil) := by
  obtain ⟨E, tk, hE⟩ := M.ex
  refine ⟨_, ps_raise hc tk (pmk_oex0 T iC tI F1 hr hb hg hm hdb), fun {Fm F H σ γ} E' n t D k a ha => ?_⟩
  refine ⟨a, [], rfl, rfl, upd_same, fun dx hdx hne => ⟨rfl, dx, excF code [] V.str [], upd_same, by rw [upd_ne hne, upd_same], ?_, ?_⟩⟩
  · rw [← hdx, upd_ne hne]
  · have hd1 : H dx = none := by rw [← hdx, upd_ne hne]
    show E (.ref C) (some dx) _
    rw [exc_gone ha hne]
    have ed := Ext.laid (o := .xd (excF code [] V.str [])) n.ok hd1
    exact hE (n.ext.trans ed) ⟨rfl, dx, _, rfl, upd_same, n.ext.back n.ok0 hd1, n.ok.fF hd1, repF_exc .nil⟩ t.2
/-! the __init__ of such a class -/
theorem read_exc0 {K : PySem.W.Frag} {C : Addr} {code : Str} (T : OexC K C) (nc : PySem.W.findIn K (.ref C) ("code" : Str) = some none) {vs : List V} {H : Hp} {Q : VK} {E : L2.XK} (h : spExc C code [] vs H Q E) {nx : Ends} (hq : nx.nx = fun _ H' => Q .non H') {σ : L2.St} (hσ : σ = [vs[0]?]) :
    tOst K "code" (tVar 0) (tC (.str code)) nx σ H := by
  obtain ⟨a, ws, rfl, hl, ha, q⟩ := h
  cases ws with
  | cons _ _ => cases hl
  | nil =>
    subst hσ
    refine ⟨.ref a, rfl, a, C, rfl, T, nc, .inl ⟨ha, fun dx h1 h2 => ?_⟩⟩
    rw [hq]
    exact q dx h1 h2
theorem upd_mid {H : Hp} {a d : Addr} {o o' o'' : HO} (h : d ≠ a) : upd (upd (upd H d o) a o') d o'' = upd (upd H d o'') a o' := by
  funext q
  by_cases h1 : q = d
  · subst h1
    rw [upd_same, upd_ne h, upd_same]
  · rw [upd_ne h1]
    by_cases h2 : q = a
    · subst h2
      rw [upd_same, upd_same]
    · rw [upd_ne h2, upd_ne h2, upd_ne h1, upd_ne h1]
theorem read_exc1 {K : PySem.W.Frag} {C : Addr} {code n1 : Str} (T : OexC K C) (nc : PySem.W.findIn K (.ref C) ("code" : Str) = some none) (m1 : PySem.W.findIn K (.ref C) n1 = some none) {vs : List V} {H : Hp} {Q : VK} {E : L2.XK} (h : spExc C code [n1] vs H Q E) {nx : Ends} (hq : nx.nx = fun _ H' => Q .non H') {σ : L2.St} (hσ : σ = [vs[0]?, vs[1]?]) :
    tSeq (tOst K "code" (tVar 0) (tC (.str code))) (tOst K n1 (tVar 0) (tVar 1)) nx σ H := by
  obtain ⟨a, ws, rfl, hl, ha, q⟩ := h
  match ws, hl with
  | [y], _ =>
    subst hσ
    refine ⟨.ref a, rfl, a, C, rfl, T, nc, .inl ⟨ha, fun dx h1 h2 => ?_⟩⟩
    refine ⟨y, rfl, .ref a, rfl, a, C, rfl, T, m1, .inr ⟨dx, _, upd_same, by rw [upd_ne h2, upd_same], Nat.le_of_ble_eq_true rfl, ?_⟩⟩
    rw [hq, upd_mid h2]
    exact q dx h1 h2
theorem read_exc2 {K : PySem.W.Frag} {C : Addr} {code n1 n2 : Str} (T : OexC K C) (nc : PySem.W.findIn K (.ref C) ("code" : Str) = some none) (m1 : PySem.W.findIn K (.ref C) n1 = some none) (m2 : PySem.W.findIn K (.ref C) n2 = some none) {vs : List V} {H : Hp} {Q : VK} {E : L2.XK} (h : spExc C code [n1, n2] vs H Q E)
    {nx : Ends} (hq : nx.nx = fun _ H' => Q .non H') {σ : L2.St} (hσ : σ = [vs[0]?, vs[1]?, vs[2]?]) :
    tSeq (tOst K "code" (tVar 0) (tC (.str code))) (tSeq (tOst K n1 (tVar 0) (tVar 1)) (tOst K n2 (tVar 0) (tVar 2))) nx σ H := by
  obtain ⟨a, ws, rfl, hl, ha, q⟩ := h
  match ws, hl with
  | [y, z], _ =>
    subst hσ
    refine ⟨.ref a, rfl, a, C, rfl, T, nc, .inl ⟨ha, fun dx h1 h2 => ?_⟩⟩
    refine ⟨y, rfl, .ref a, rfl, a, C, rfl, T, m1, .inr ⟨dx, _, upd_same, by rw [upd_ne h2, upd_same], Nat.le_of_ble_eq_true rfl, ?_⟩⟩
    rw [upd_mid h2]
    refine ⟨z, rfl, .ref a, rfl, a, C, rfl, T, m2, .inr ⟨dx, _, upd_same, by rw [upd_ne h2, upd_same], Nat.le_of_ble_eq_true rfl, ?_⟩⟩
    rw [hq, upd_mid h2]
    exact q dx h1 h2
end
end DL

namespace DL
open PySem PySem.Spec PyProof.Rows L2
abbrev DIpX := List Dt → (List (Str × Dt) → Prop) → (Xd → Prop) → Prop
/-- what an __init__ promises that may raise -/
def spIX (b : Bg) (C : Addr) (m : Nat) (T : DIpX) : Sp := fun vs H Q E => ∃ (x dx : Addr) (ws : List V) (F H1 : Hp) (ds : List Dt) (P : List (Str × Dt) → Prop) (R : Xd → Prop), vs = .ref x :: ws ∧ H = upd (upd H1 dx (.own x)) x (.ins C dx []) ∧ H1 x = none ∧ H1 dx = none ∧ dx ≠ x ∧
  Ok b F H1 ∧ RepL b F ws ds ∧ ds.length = m ∧ T ds P R ∧ (∀ F' H' d2 us fs, Ext b F H1 F' H' → H' x = some (.ins C d2 us) → F' x = none → RepF b F' us fs → P fs → Q .non H') ∧
  ∀ cls d y F' H', Ext b F H1 F' H' → RepX b F' H1 H' cls d y → R y → E cls d H'
section
variable {P : Program} {w : World} {K : PySem.W.Frag} {mg : Str → Option Value} {base : Heap} {b : Bg}
theorem FunV.okX {x qual : Str} {st : Stmt} {f : Addr} {fd : FuncData} {N ps : List Str} {k : Nat} {sp : Sp} (F : FunV K x qual st f fd) (S : FnScope N ps (defScope st)) (len : ∀ vs H Q E, sp vs H Q E → vs.length = ps.length)
    (hbody : ∀ (cdv : Value) (A : Around) (outer : List Env) (s : Shared) (H : Hp) (vs : List V) (Q : VK) (E : L2.XK), Room k (A.deeper (envOfC qual (defScope st) s.heap.objs.size f cdv)) → sp vs H Q E →
      ∃ t, PSs (cxOf (L2.CX P w) P w K mg base N qual (defScope st) f cdv A outer s H E) (defBody st) t ∧ t { nx := fun _ H' => Q .non H', rt := Q } (L2.start N vs) H) : FnOk P w K mg base (L2.CX P w) (k + 1) f fd ps sp := by
  obtain ⟨oc, od, dV, kV, doc, pm, an, cdv, ct, osl, rfl, lk, hcd⟩ := F.ex
  exact fn_of lk hcd S len fun A outer s H vs Q E hr hsp => hbody cdv A outer s H vs Q E hr hsp
/-- a def's own text, with or without defaults -/
theorem Fun.v {x qual : Str} {st : Stmt} {f : Addr} {fd : FuncData} (F : Fun K x qual st f fd) : FunV K x qual st f fd := by
  obtain ⟨oc, od, kV, doc, pm, an, cdv, ct, osl, e, lk, hcd⟩ := F.ex
  exact ⟨⟨oc, od, .none, kV, doc, pm, an, cdv, ct, osl, e, lk, hcd⟩, F.kp⟩
theorem xm_of {qual : Str} {sc : Scope} {N : List Str} {f : Addr} {cdv : Value} {A : Around} {outer : List Env} {s : Shared} {H F0 H0 : Hp} {E : L2.XK} {R : Xd → Prop}
    (h : ∀ cls d y F' H', Ext b F0 H0 F' H' → RepX b F' H0 H' cls d y → R y → E cls d H') : XM (cxOf (L2.CX P w) P w K mg base N qual sc f cdv A outer s H E) b F0 H0 R :=
  ⟨⟨E, takes_of rfl rfl rfl rfl, fun x r hR => h _ _ _ _ _ x r hR⟩, passes_of rfl⟩
/-- THE RULE for a def that may raise -/
theorem fn_DXV {x qual : Str} {st : Stmt} {f : Addr} {fd : FuncData} {N ps : List Str} {k : Nat} {T : DSpX} (F : FunV K x qual st f fd) (S : FnScope N ps (defScope st))
    (hbody : ∀ (X : Cx) (outer : List Env) (cdv : Value) (A : Around) (s : Shared) (H : Hp) (E : L2.XK), X = cxOf (L2.CX P w) P w K mg base N qual (defScope st) f cdv A outer s H E → Room k X.A → ∀ (F0 H0 : Hp) (R : Xd → Prop), XM (cxOf (L2.CX P w) P w K mg base N qual (defScope st) f cdv A outer s H E) b F0 H0 R →
      ∃ T', XSSx (cxOf (L2.CX P w) P w K mg base N qual (defScope st) f cdv A outer s H E) b F0 H0 (defBody st) T' ∧ ∀ (ds : List Dt) (Q : Dt → Prop), ds.length = ps.length → T ds Q R → T' { nx := fun _ => Q .non, rt := fun _ => Q } (startD N ds)) :
    FnOk P w K mg base (L2.CX P w) (k + 1) f fd ps (spDX b ps.length T) := by
  refine F.okX S (fun vs H Q E h => ?_) (fun cdv A outer s H vs Q E hr h => ?_)
  · obtain ⟨F0, ds, P0, R, h1, h2, h3, _⟩ := h
    rw [h2.length, h3]
  · obtain ⟨F0, ds, P0, R, h1, h2, h3, h4, h5, h6⟩ := h
    obtain ⟨T', ⟨t, t1, t2⟩, t3⟩ := hbody _ outer cdv A s H E rfl hr F0 H R (xm_of h6)
    refine ⟨t, t1, t2 _ (start_nv (Fm := F0) h1 h2) (t3 ds P0 h3 h4) _ ⟨?_, ?_, ?_, ?_⟩⟩
    · intro F' H' σ γ n r
      exact h5 _ _ _ _ n.ext .non r
    · intro F' H' σ γ v d n r p
      exact h5 _ _ _ _ n.ext r p
    · intro F' H' σ γ n r
      exact r.elim
    · intro F' H' σ γ n r
      exact r.elim
/-- THE RULE for an __init__ that may raise -/
theorem fn_IXV {x qual : Str} {st : Stmt} {f C : Addr} {fd : FuncData} {N ps : List Str} {k m : Nat} {T : DIpX} (F : FunV K x qual st f fd) (S : FnScope N ps (defScope st)) (hm : ps.length = m + 1)
    (hbody : ∀ (X : Cx) (outer : List Env) (cdv : Value) (A : Around) (s : Shared) (H : Hp) (E : L2.XK), X = cxOf (L2.CX P w) P w K mg base N qual (defScope st) f cdv A outer s H E → Room k X.A → ∀ (F0 H0 : Hp) (R : Xd → Prop), XM (cxOf (L2.CX P w) P w K mg base N qual (defScope st) f cdv A outer s H E) b F0 H0 R →
      ∃ T', XSSx (cxOf (L2.CX P w) P w K mg base N qual (defScope st) f cdv A outer s H E) b F0 H0 (defBody st) T' ∧
      ∀ (l : Addr) (ds : List Dt) (Q : List (Str × Dt) → Prop), ds.length = m → T ds Q R → T' { nx := fun γ => ∃ fs, gat γ 0 = .obj l (.ins C fs) ∧ Q fs, rt := fun γ d => d = .non ∧ ∃ fs, gat γ 0 = .obj l (.ins C fs) ∧ Q fs } (startI N l C ds)) :
    FnOk P w K mg base (L2.CX P w) (k + 1) f fd ps (spIX b C m T) := by
  refine F.okX S (fun vs H Q E h => ?_) (fun cdv A outer s H vs Q E hr h => ?_)
  · obtain ⟨l, dx, ws, F0, H1, ds, P0, R, rfl, _, _, _, _, _, h2, h3, _⟩ := h
    rw [List.length_cons, h2.length, h3, hm]
  · obtain ⟨l, dx, ws, F0, H1, ds, P0, R, rfl, rfl, hx, hdx, hne, h1, h2, h3, h4, h5, h6⟩ := h
    obtain ⟨T', ⟨t, t1, t2⟩, t3⟩ := hbody _ outer cdv A s _ E rfl hr F0 H1 R (xm_of h6)
    have n1 : Nv b F0 F0 H1 F0 H1 (L2.start N (.non :: ws)) (startD N (.non :: ds)) := start_nv (Fm := F0) h1 (.cons .non h2)
    have x1 : Ext b F0 H1 F0 (upd H1 dx (.own l)) := Ext.laid h1 hdx
    have hx2 : (upd H1 dx (.own l)) l = none := by rw [upd_ne hne.symm]; exact hx
    have x2 : Ext b F0 (upd H1 dx (.own l)) F0 (upd (upd H1 dx (.own l)) l (.ins C dx [])) := Ext.laid x1.ok hx2
    have n3 : Nv b F0 F0 H1 F0 (upd (upd H1 dx (.own l)) l (.ins C dx [])) (L2.start N (.ref l :: ws)) (startI N l C ds) :=
      ((n1.to x1).to x2).setObj 0 (l := l) (u := .ins C dx []) (d := .ins C []) upd_same (.ins .nil) (h1.fF hx) hx (h1.nb hx) fun j a hj => by rw [start_adr] at hj; cases hj
    have fin : ∀ {F' H' : Hp} {σ : L2.St} {γ : Gm}, Nv b F0 F0 H1 F' H' σ γ → (∃ fs, gat γ 0 = .obj l (.ins C fs) ∧ P0 fs) → Q .non H' := fun {F' H' σ γ} n ⟨fs, g, r⟩ => by
      have hs := n.slot 0
      rw [g] at hs
      obtain ⟨u, _, a2, a3, a4, _, _⟩ := hs
      cases a3 with
      | ins rr => exact h5 _ _ _ _ fs n.ext a2 a4 rr r
    refine ⟨t, t1, t2 _ n3 (t3 l ds P0 h3 h4) _ ⟨fun n r => fin n r, ?_, fun _ r => r.elim, fun _ r => r.elim⟩⟩
    intro F' H' σ γ v d n r p
    obtain ⟨rfl, p⟩ := p
    cases r
    exact fin n p
/-- an __init__ as one that raises nothing -/
theorem FnOk.calmI {k : Nat} {f C : Addr} {fd : FuncData} {ps : List Str} {m : Nat} {T : DIpX} {T' : DIp}
    (F : FnOk P w K mg base (L2.CX P w) k f fd ps (spIX b C m T)) (h : ∀ ds Q, T' ds Q → T ds Q fun _ => False) : FnOk P w K mg base CX0 k f fd ps (spI b C m T') := by
  have up : ∀ vs H Q (E : L2.XK), spI b C m T' vs H Q E → spIX b C m T vs H Q (fun _ _ _ => False) := fun vs H Q E ⟨x, dx, ws, F0, H1, ds, P0, a1, a2, a3, a4, a5, h1, h2, h3, h4, h5⟩ =>
    ⟨x, dx, ws, F0, H1, ds, P0, fun _ => False, a1, a2, a3, a4, a5, h1, h2, h3, h ds P0 h4, h5, fun _ _ _ _ _ _ _ z => z⟩
  refine ⟨fun vs H Q E q => F.len _ _ _ _ (up vs H Q E q), fun A outer s H args us vs Q E hr he hb hv hs => ?_⟩
  refine codeAny_mono (F.run A outer s H args us vs Q _ hr he hb hv (up vs H Q E hs)) fun r s' q => ?_
  cases r with
  | error e =>
    obtain ⟨_, _, _, _, _, _, _, _, _, _, _, _, z⟩ := q
    exact z.elim
  | ok fl =>
    cases fl with
    | ret u => exact q
    | next => exact q
    | brk => exact q
    | cont => exact q
end
section
variable {X : Cx} {b : Bg} {F0 H0 : Hp} {R : Xd → Prop} {e : Expr} {es : List Expr} {pos p : Pos} {Tas : DAt}
@[reducible] def dMakeX (C : Addr) (m : Nat) (T : DIpX) (R : Xd → Prop) (Ta : DAt) : DT := fun γ P => Ta γ fun ds => ds.length = m ∧ T ds (fun fs => P (.ins C fs)) R
theorem x_makeX {k : Nat} {f C : Addr} {fd : FuncData} {ps : List Str} {x : Str} {m : Nat} {T : DIpX} (MX : XM X b F0 H0 R) (M : Mk X.K C f) (F : FnOk X.prog X.w X.K X.mg X.base (L2.CX X.prog X.w) k f fd ps (spIX b C m T)) (hr : Room (k + 1) X.A) (hg : Gl X x) (hm : X.mg x = some (.ref C)) (hb : Binds X.K fd ps [])
    (ha : XA X b (e :: es) Tas) (hdb : (x == ("__debug__" : Str)) = false := by decide) (he : starEach (e :: es) X.env = (false, eval e X.env) :: starEach es X.env := by rfl) (hpl : (backTo pos (starEach es X.env)).any (·.1) = false := by rfl) : XEx X b F0 H0 (.Call (.Name x p) (e :: es) [] pos) (dMakeX C m T R Tas) := by
  obtain ⟨_, h1, h2⟩ := ha
  obtain ⟨E, tk, hE⟩ := MX.ex
  refine ⟨_, pe_make (E := E) M F hr hg hm hb .nil (passes_call tk fun _ _ _ _ z => z) h1 hdb he hpl, fun P n t Q q => h2 _ n t _ fun vs ds F1 H1 x1 r1 t1 => ?_⟩
  intro a dx ha hdx hne
  show spIX b C m T (_ :: (vs ++ [])) _ _ _
  rw [List.append_nil]
  refine ⟨a, dx, vs, F1, H1, ds, _, R, rfl, rfl, ha, hdx, hne, x1.ok, r1, t1.1, t1.2, fun F' H' d2 us fs y hx hf r p1 => ⟨rfl, ?_⟩, fun cls d xx F' H' y r hR => hE ((n.to x1).ext.trans y) (RepX.up (n.to x1) r) hR⟩
  have y2 := y.take ha (x1.ok.nb ha) hx
  exact q _ _ _ H' (x1.trans y2) (.ins upd_same (RepF.mono (fun c o z => by rw [upd_ne (ne_of_none z hf)]; exact z) r)) p1
end
end DL

namespace DL
open PySem PySem.Spec PyProof.Rows L2 PySem.Calls
/-! ### fields of an exception that is a value -/
section
variable {X : Cx} {b : Bg} {e : Expr} {pos : Pos} {Ta : DT}
theorem pe_efld {te : TE} {n : Str} (he : PE X e te) (hb : attributeBase e n X.env (eval e X.env) = eval e X.env := by rfl) :
    PE X (.Attribute e n pos) (fun σ H Q => te σ H fun x H1 => ∃ (a C dx : Addr) (fs : List (Str × V)) (v : V), x = .ref a ∧ H1 a = some (exV a C dx) ∧ H1 dx = some (.xd fs) ∧ XfC X.K C ∧ PySem.W.findIn X.K (.ref C) n = some none ∧ fs.lookup n = some v ∧ Q v H1) := by
  refine ⟨fun pins s σ H Q I h => ?_⟩
  refine attr_of hb (thn (he.run pins s σ H _ I h) fun u s1 ⟨x, H1, I1, rx, a, C, dx, fs, v, ex, ea, ed, T, hno, l, q⟩ => ?_)
  subst ex
  obtain rfl : u = Value.ref a := rx
  have ha : ObjOk X.prog X.w H1 s1.heap a (exV a C dx) := I1.hok a _ ea
  obtain ⟨⟨oe, ho, hc, hdi, fv, hda⟩, _⟩ := ha
  have hx : ObjOk X.prog X.w H1 s1.heap dx (.xd fs) := I1.hok dx _ ed
  obtain ⟨mA, hns, hr⟩ := hx
  obtain ⟨od, hod, hl⟩ := lookIn_ns hns
  obtain ⟨u, hu, ru⟩ := RelO.some_of (v := v) (o := mA n) (by rw [← l]; exact hr n)
  have J : PySem.W.InstAt s1.heap a oe C (some od) := ⟨ho, hc, by unfold PySem.W.notCls; rw [hda] <;> rfl, by rw [hdi]; exact hod⟩
  exact HandSPX.exc_get I1.kIn J T.ga T.gg T.exC (PySem.W.findObj_own T.hdC hno rfl (by rw [hl, hu])) (handed_of ru) ⟨v, H1, I1.tok _, ru, q⟩
@[reducible] def dEfld (K : PySem.W.Frag) (n : Str) (Ta : DT) : DT := fun γ P => Ta γ fun d => match d with | .exc C fs => XfC K C ∧ PySem.W.findIn K (.ref C) n = some none ∧ ∃ z, fs.lookup n = some z ∧ P z | _ => False
theorem x_efld {n : Str} (ha : XE X b e Ta) (hb : attributeBase e n X.env (eval e X.env) = eval e X.env := by rfl) : XE X b (.Attribute e n pos) (dEfld X.K n Ta) := by
  obtain ⟨_, h1, h2⟩ := ha
  refine ⟨_, pe_efld h1 hb, fun P n t Q q => h2 _ n t _ fun v d F1 H1 x1 r1 t1 => ?_⟩
  cases r1 <;> first | exact t1.elim | skip
  rename_i ea ed r
  obtain ⟨t2, t3, z, hz, t4⟩ := t1
  obtain ⟨u, hu, ru⟩ := r.look hz
  exact ⟨_, _, _, _, u, rfl, x1.sub _ _ ea, x1.sub _ _ ed, t2, t3, hu, q _ _ F1 H1 x1 ru t4⟩
end
/-! ### defs that are called wherever, an exception handled or not -/
/-- room alone, whatever is handled -/
structure RoomH (k : Nat) (A : Around) : Prop where
  deep : A.depth + 3 * k + 5 < recursionLimit
  wide : A.units + 16 * k + 200 < cLine
theorem RoomH.less {j k : Nat} {A : Around} (r : RoomH k A) (h : j ≤ k) : RoomH j A := ⟨by have := r.deep; omega, by have := r.wide; omega⟩
theorem RoomH.inner {k : Nat} {A : Around} (r : RoomH (k + 1) A) (env : Env) : RoomH k (A.deeper env) := by
  have h1 := r.deep
  have h2 := r.wide
  refine ⟨?_, ?_⟩
  · show A.depth + 1 + 3 * k + 5 < _
    omega
  · show A.units + 3 + 16 * k + 200 < _
    omega
theorem RoomH.enter {k : Nat} {A : Around} (r : RoomH k A) : A.depth < recursionLimit := by have := r.deep; omega
theorem RoomH.of {k : Nat} {A : Around} (r : Room k A) : RoomH k A := ⟨r.dp, r.un⟩
structure FnA (P : Program) (w : World) (K : PySem.W.Frag) (mg : Str → Option Value) (base : Heap) (k : Nat) (f : Addr) (fd : FuncData) (ps : List Str) (sp : Sp) : Prop where
  len : ∀ vs H Q E, sp vs H Q E → vs.length = ps.length
  run : ∀ (A : Around) (outer : List Env) (s : Shared) (H : Hp) (args : Args) (us : List Value) (vs : List V) (Q : VK) (E : L2.XK), RoomH k A → Env0 P w K mg base A outer s H → BindsTo s fd args (ps.zip us) → Vals vs us → sp vs H Q E →
    codeAny (model P w) A (.call (.ref f) args) (CR CX0 outer P w H s Q E) s
/-- the context of its body -/
def cxA (CX : CXT) (P : Program) (w : World) (K : PySem.W.Frag) (mg : Str → Option Value) (base : Heap) (N : List Str) (qual : Str) (scope : Scope) (f : Addr) (cd : Value) (A : Around) (outer : List Env) (s : Shared) (H : Hp) (E : L2.XK) : Cx :=
  { cxOf CX P w K mg base N qual scope f cd A outer s H E with calm := false }
theorem fn_ofA {P : Program} {w : World} {K : PySem.W.Frag} {mg : Str → Option Value} {base : Heap} {k : Nat} {x qual : Str} {st : Stmt} {f : Addr} {fd : FuncData} {N ps : List Str} {sp : Sp} (F : FunV K x qual st f fd) (S : FnScope N ps (defScope st))
    (len : ∀ vs H Q E, sp vs H Q E → vs.length = ps.length)
    (hbody : ∀ (cdv : Value) (A : Around) (outer : List Env) (s : Shared) (H : Hp) (vs : List V) (Q : VK) (E : L2.XK), RoomH k (A.deeper (envOfC qual (defScope st) s.heap.objs.size f cdv)) → sp vs H Q E →
      ∃ t, PSs (cxA CX0 P w K mg base N qual (defScope st) f cdv A outer s H E) (defBody st) t ∧ t { nx := fun _ H' => Q .non H', rt := Q } (L2.start N vs) H) :
    FnA P w K mg base (k + 1) f fd ps sp := by
  obtain ⟨oc, od, dV, kV, doc, pm, an, cdv, ct, osl, rfl, lk, hcd⟩ := F.ex
  refine ⟨len, fun A outer s H args us vs Q E hr e0 hb r hsp => ?_⟩
  have hl := len _ _ _ _ hsp
  have kin : K.In s.heap := e0.mod.kin.keeps fun b o e => (e0.bs b o e).1
  have nol : s.heap.NoLimit := e0.mod.nolimit.keeps fun b o e => (e0.bs b o e).1
  have knd : ∀ y ∈ ps.zip us, (defScope st).names.lookup y.1 = some .local ∨ ((defScope st).names.lookup y.1 = some .cell ∧ ((cellsFrom (s.heap.objs.size + 1) (defScope st).names []).lookup y.1).isSome = true) := by
    rintro ⟨n, v⟩ hy
    rcases S.par n (List.of_mem_zip hy).1 with q | q
    · exact .inl q
    · exact .inr ⟨q, PySem.W.cellsFrom_some _ _ _ (.inl q)⟩
  refine codeAny_call_function hr.enter (kin _ _ lk) rfl S.co S.gen rfl (PySem.W.codeRec_of kin hcd) (hb _ _ _ _ ?_)
  refine wpAny_newFunctionEnv_cells S.kind knd fun env he s1 x => ?_
  subst he
  refine ⟨nol.keeps x.toInCall.keep, codeAny_func ?_⟩
  obtain ⟨t, ht, hq⟩ := hbody cdv A outer s H vs Q E (hr.inner _) hsp
  have e1 : Env0 P w K mg base { A with handled := none } outer s H := ⟨e0.frames, e0.mod, e0.bs, e0.bsz, e0.funs, e0.frf, e0.hok, e0.bare⟩
  have I0 : Inv (cxOf CX0 P w K mg base N qual (defScope st) f cdv { A with handled := none } outer s H E) [] (L2.start N vs) H s1 := inv_start S rfl e1 hl r x
  have I : Inv (cxA CX0 P w K mg base N qual (defScope st) f cdv A outer s H E) [] (L2.start N vs) H s1 :=
    ⟨⟨I0.ok.mod, I0.ok.kind, I0.ok.glob, I0.ok.blt, I0.ok.above, I0.ok.inj, I0.ok.has, I0.ok.cab, fun z => absurd (show false = true from z) Bool.false_ne_true, I0.ok.frames, I0.ok.stk, I0.ok.exf, I0.ok.bs, I0.ok.bsz, I0.ok.noex, I0.ok.exfs, I0.ok.funs, I0.ok.frf⟩,
      I0.os, I0.bare, I0.base, I0.loc, I0.cell, I0.free, I0.freeC, I0.pin, I0.hok, I0.len⟩
  refine wpAny_mono (ht.run [] s1 (L2.start N vs) H _ I hq) (fun fl s' hs => ?_) fun e s' hs => hs
  have fin : ∀ {σ' : L2.St} {H' : Hp} {v : V} {u : Value}, Inv (cxA CX0 P w K mg base N qual (defScope st) f cdv A outer s H E) [] σ' H' s' → L2.RelV v u → Q v H' → CE outer P w H s Q u s' :=
    fun {σ' H' v u} J rv q => ⟨v, H', J.os, J.bare, J.base, J.hok, rv, q⟩
  cases fl with
  | ret u =>
    obtain ⟨v, σ', H', J, rv, q⟩ := hs
    exact fin J rv q
  | next =>
    obtain ⟨σ', H', J, q⟩ := hs
    exact fin (v := V.non) (u := Value.none) J rfl q
  | brk =>
    obtain ⟨_, _, _, q⟩ := hs
    exact False.elim q
  | cont =>
    obtain ⟨_, _, _, q⟩ := hs
    exact False.elim q
/-- THE RULE for such a def -/
theorem fn_DA {P : Program} {w : World} {K : PySem.W.Frag} {mg : Str → Option Value} {base : Heap} {b : Bg} {x qual : Str} {st : Stmt} {f : Addr} {fd : FuncData} {N ps : List Str} {k : Nat} {T : DSp} (F : FunV K x qual st f fd) (S : FnScope N ps (defScope st))
    (hbody : ∀ (X : Cx) (outer : List Env) (cdv : Value) (A : Around) (s : Shared) (H : Hp) (E : L2.XK), X = cxA CX0 P w K mg base N qual (defScope st) f cdv A outer s H E → RoomH k X.A → ∃ T', XSs (cxA CX0 P w K mg base N qual (defScope st) f cdv A outer s H E) b (defBody st) T' ∧ ∀ (ds : List Dt) (R : Dt → Prop), ds.length = ps.length → T ds R → T' { nx := fun _ => R .non, rt := fun _ => R } (startD N ds)) :
    FnA P w K mg base (k + 1) f fd ps (spD b ps.length T) := by
  refine fn_ofA F S (fun vs H Q E h => ?_) (fun cdv A outer s H vs Q E hr h => ?_)
  · obtain ⟨F0, ds, R, h1, h2, h3, _⟩ := h
    rw [h2.length, h3]
  · obtain ⟨F0, ds, R, h1, h2, h3, h4, h5⟩ := h
    obtain ⟨T', ⟨t, t1, t2⟩, t3⟩ := hbody _ outer cdv A s H E rfl hr
    refine ⟨t, t1, t2 _ (start_nv (Fm := F0) h1 h2) (t3 ds R h3 h4) _ ⟨?_, ?_, fun _ r => r.elim, fun _ r => r.elim⟩⟩
    · intro F' H' σ γ n r
      exact h5 _ _ _ _ n.ext .non r
    · intro F' H' σ γ v d n r p
      exact h5 _ _ _ _ n.ext r p
section
variable {X : Cx} {b : Bg} {e : Expr} {es : List Expr} {pos p : Pos} {Ta : DAt}
theorem x_callA {k : Nat} {f : Addr} {fd : FuncData} {ps : List Str} {x : Str} {m : Nat} {T : DSp} (F : FnA X.prog X.w X.K X.mg X.base k f fd ps (spD b m T)) (hr : RoomH k X.A) (hg : Gl X x) (hm : X.mg x = some (.ref f)) (hk : PySem.W.keepIn X.K (.ref f) = true) (hb : Binds X.K fd ps [])
    (ha : XA X b (e :: es) Ta) (hdb : (x == ("__debug__" : Str)) = false := by decide) (he : starEach (e :: es) X.env = (false, eval e X.env) :: starEach es X.env := by rfl) (hpl : (backTo pos (starEach es X.env)).any (·.1) = false := by rfl) : XE X b (.Call (.Name x p) (e :: es) [] pos) (dCall m T Ta) := by
  obtain ⟨ta, h1, h2⟩ := ha
  have rule : PE X (.Call (.Name x p) (e :: es) [] pos) (fun σ H Q => ta σ H fun vs H1 => spD b m T vs H1 Q E0) := by
    refine ⟨fun pins s σ H Q I h => ?_⟩
    refine wpAny_Call_Name_kw (ld_glob I hg hm ?_ hdb)
    refine PySem.W.callWith_K (h₀ := X.base) I.ok.mod.kin hk (thn (h1.run pos pins s σ H _ I h) fun us s1 ⟨vs, H1, I1, r, q⟩ => ⟨I1.kIn, ?_⟩) he hpl
    have hl : (us ++ []).length = ps.length := by rw [List.append_nil, ← r.length]; exact F.len _ _ _ _ q
    refine wpAny_call (codeAny_mono (F.run X.A X.stack s1 H1 ⟨us, []⟩ (us ++ []) vs Q E0 hr I1.env0 (hb s1 us I1.kIn hl) (by rw [List.append_nil]; exact r) q) fun r' s' back => ?_)
    cases r' with
    | error er => exact pass0 pins σ H1 s1 er s' I1 back
    | ok fl =>
      cases fl with
      | ret u => exact I1.after back
      | next => exact False.elim back
      | brk => exact False.elim back
      | cont => exact False.elim back
  exact ⟨_, rule, fun P n t Q q => h2 _ n t _ fun vs ds F1 H1 x1 r1 t1 => ⟨F1, ds, P, x1.ok, r1, t1.1, t1.2, fun v d F' H' x r p1 => q v d F' H' (x1.trans x) r p1⟩⟩
end
end DL

namespace DL
open PySem PySem.Spec PyProof.Rows L2 PySem.Calls
/-! ### an object of the state's own is told of from now on -/
section
variable {X : Cx} {pins : List (Addr × Obj)} {σ : L2.St} {H : Hp} {s : Shared} {a : Addr} {o : HO}
theorem Inv.track (I : Inv X pins σ H s) (hn : H a = none) (new : X.s_0.heap.get? a = none) (nL : a ≠ X.env.locals) (nC : ∀ x c, X.env.cells.lookup x = some c → c ≠ a) (nP : ∀ p ∈ X.pn ++ pins, p.1 ≠ a) (ok : ObjOk X.prog X.w (upd H a o) s.heap a o) : Inv X pins σ (upd H a o) s := by
  have ne : ∀ {b : Addr} {u : HO}, H b = some u → b ≠ a := fun e => ne_of_none e hn
  refine ⟨I.ok, I.os, I.bare, ⟨I.base.keep, I.base.slot, fun b u e n hx => ?_, I.base.there, fun b xs e => ?_, fun b u v e => ?_, fun b ps e => ?_⟩, I.loc, I.cell, ?_, fun x c e => ?_, fun p hp => ?_, fun b u e => ?_, I.len⟩
  · have hb : b ≠ a := fun z => by rw [z, new] at e; cases e
    rw [upd_ne hb]
    exact I.base.free b u e n hx
  · have h := I.base.tups b xs e
    rw [upd_ne (ne h)]
    exact h
  · have h := I.base.frzs b u v e
    rw [upd_ne (ne h)]
    exact h
  · obtain ⟨more, h⟩ := I.base.tbls b ps e
    exact ⟨more, by rw [upd_ne (ne h)]; exact h⟩
  · rw [upd_ne nL.symm]
    exact I.free
  · rw [upd_ne (nC x c e)]
    exact I.freeC x c e
  · obtain ⟨h1, h2, h3⟩ := I.pin p hp
    exact ⟨h1, by rw [upd_ne (nP p hp)]; exact h2, h3⟩
  · by_cases hb : b = a
    · subst hb
      rw [upd_same] at e
      cases e
      exact ok
    · rw [upd_ne hb] at e
      exact (I.hok b u e).stay (fun _ _ _ q => q) (fun c q => by rw [upd_ne (ne q)]; exact q) fun c xs q => by rw [upd_ne (ne q)]; exact q
theorem inv_suite {a : Addr} (I : Inv X pins σ H s) : Inv (X.suite a (X.pn ++ pins)) [] σ H s :=
  ⟨I.ok.suite _ _, I.os, I.bare, I.base, I.loc, I.cell, I.free, I.freeC, fun p hp => I.pin p (by rw [List.append_nil] at hp; exact hp), I.hok, I.len⟩
theorem inv_unsuite {a : Addr} {pn' : List (Addr × Obj)} (I : Inv (X.suite a (X.pn ++ pins)) pn' σ H s) (ok : X.Ok) : Inv X pins σ H s :=
  ⟨ok, I.os, I.bare, I.base, I.loc, I.cell, I.free, I.freeC, fun p hp => I.pin p (List.mem_append_left _ hp), I.hok, I.len⟩
end
theorem flying_keeps {B h h' : Heap} {l : List Env} {a : Addr} {Z : Obj → Prop} (x : HandSPX.FlyingZ B l a Z h) (k : ∀ b o, h.get? b = some o → h'.get? b = some o) : HandSPX.FlyingZ B l a Z h' := by
  obtain ⟨k1, k2, k3, oe, vs, T, oT, ts, e1, e2, e3, e4, e5, e6, e7, e8, e9⟩ := x
  exact ⟨fun b o z => k b o (k1 b o z), k2, k3.of_keeps fun b o z _ => ⟨o, k b o z, rfl⟩, oe, vs, T, oT, ts, k _ _ e1, e2, e3, e4, e5, e6, k _ _ e7, e8, e9⟩
/-- what the clause wishes of an exception of the body -/
def wG (K : PySem.W.Frag) (cs : List Value) (i m : Nat) (ts : Addr → TS) (D : Ends) : WX := fun cls d _ H => ∃ (C dx : Addr) (vs : List (Str × V)), cls = .ref C ∧ d = some dx ∧ H dx = some (.xd vs) ∧ PySem.W.exmAny K cls cs = some true ∧
  ∀ (a : Addr) (σ : L2.St), H a = none → σ.length = m → ts a { nx := fun σ' H' => D.nx (σ'.set i none) H', rt := D.rt, bk := fun σ' H' => D.bk (σ'.set i none) H', ct := fun σ' H' => D.ct (σ'.set i none) H' } (σ.set i (some (.ref a))) (upd H a (exV a C dx))
section
variable {X : Cx} {n x1 x2 x3 : Str} {c1 c2 c3 : Addr} {i kk : Nat} {body suite : List Stmt} {b₀ : Stmt} {p1 p2 p3 pt pos pos' : Pos} {tb : WX → TS} {ts : Addr → TS}
/-- try: body / except (x1, x2, x3) as n: suite -/
theorem ps_try3 (hs : X.stack = X.env :: X.outer) (hf : X.env.frame = some X.env.locals) (hex : X.ex = []) (hN : X.N.Nodup) (hi : X.N[i]? = some n) (hln : X.env.kindOf n = some .local)
    (g1 : Gl X x1) (m1 : X.mg x1 = some (.ref c1)) (g2 : Gl X x2) (m2 : X.mg x2 = some (.ref c2)) (g3 : Gl X x3) (m3 : X.mg x3 = some (.ref c3))
    (d1 : (x1 == ("__debug__" : Str)) = false) (d2 : (x2 == ("__debug__" : Str)) = false) (d3 : (x3 == ("__debug__" : Str)) = false)
    (hb : ∀ (W : WX) (pn : List (Addr × Obj)) (xe : Value → Shared → Prop), Takes (X.tr pn xe) W → PassesOwn (model X.prog X.w) X.A X.env xe → PSs (X.tr pn xe) body (tb W))
    (hsu : ∀ (a : Addr) (pn : List (Addr × Obj)), PSs (X.suite a pn) (b₀ :: suite) (ts a)) :
    PS X (.Try body [.ExceptHandler (some (.Tuple [.Name x1 p1, .Name x2 p2, .Name x3 p3] kk pt)) (some n) (b₀ :: suite) pos'] [] [] pos) (fun D σ H => tb (wG X.K [.ref c1, .ref c2, .ref c3] i X.N.length ts D) D σ H) := by
  refine ⟨fun pins s σ H D I h => ?_⟩
  have ok := I.ok
  have frames : X.A.frames = some (X.env :: X.outer) := by rw [ok.frames, hs]
  have own : Loc X.env.scope n := .inl hln
  refine wpAny_Try_except ?_
  refine wpAny_mono ((hb (wG X.K [.ref c1, .ref c2, .ref c3] i X.N.length ts D) (X.pn ++ pins)
    (fun e s₁ => wpAny (model X.prog X.w) X.A (noteFrame e X.env) (fun _ s₂ => wpAny (model X.prog X.w) X.A (setFlight e none)
      (fun _ s₃ => wpAny (model X.prog X.w) X.A (handleBy e X.env [.ExceptHandler (some (.Tuple [.Name x1 p1, .Name x2 p2, .Name x3 p3] kk pt)) (some n) (b₀ :: suite) pos']) (SP X pins D) X.xe s₃) X.xe s₂) X.xe s₁)
    (fun u s' xx => ?_) PassesOwn.looking).run [] s σ H D (I.toTry _) h) (fun f s1 hsp => ?_) (fun e s1 he => he)
  · obtain ⟨a, B, sI, pins', σ', H', cls, d, rfl, J', nb, up, sky, na, os, ag, C, dx, vs, rfl, rfl, hdx, hm, hgo⟩ := xx
    have J : Inv X pins σ' H' sI := J'.ofTry ok
    rw [show (X.tr (X.pn ++ pins) _).stack = X.env :: X.outer from hs] at sky
    show wpAny (model X.prog X.w) X.A (noteFrame (.ref a) X.env) _ _ _
    refine Sky.land Zc.steady frames hf sky fun h3 fl3 up3 => ?_
    have J3 : Inv X pins σ' H' { s' with heap := h3 } := J.landed nb fl3.1 (up.trans up3) os ag
    -- the exception's object is no frame, and none that stood before
    have noFrame : a ∉ frs (X.env :: X.outer) := fun hm => by
      obtain ⟨oe, ws, he, _, hd⟩ := fl3.there
      obtain ⟨_, o', e', hnf⟩ := fl3.2.2.1.mem hm
      rw [he] at e'
      cases e'
      exact hnf _ hd
    have noI : sI.heap.get? a = none := by
      cases q : sI.heap.get? a with
      | none => rfl
      | some o =>
        have z := nb a o q (by rw [show (X.tr (X.pn ++ pins) _).stack = X.env :: X.outer from hs]; exact noFrame)
        rw [fl3.2.1] at z
        cases z
    have no0 : X.s_0.heap.get? a = none := by
      cases q : X.s_0.heap.get? a with
      | none => rfl
      | some o =>
        obtain ⟨o', z⟩ := J.base.there a o q (by rw [hex]; exact List.not_mem_nil)
        rw [noI] at z
        cases z
    have nL : a ≠ X.env.locals := fun z => noFrame (List.mem_filterMap.mpr ⟨X.env, List.mem_cons_self, by rw [hf, z]⟩)
    have nC : ∀ x c, X.env.cells.lookup x = some c → c ≠ a := fun x c e z => by
      obtain ⟨v, o, ho, _⟩ := J.cell x c e
      rw [z, noI] at ho
      cases ho
    have nP : ∀ p ∈ X.pn ++ pins, p.1 ≠ a := fun p hp z => by
      have q := (J.pin p hp).1
      rw [z, noI] at q
      cases q
    have S3 : Inv (X.suite a (X.pn ++ pins)) [] σ' H' { s' with heap := h3 } := inv_suite J3
    refine wpAny_handleBy_cons (codeAny_handlers_test ?_) (by intro q; cases q)
    refine wpAny_Tuple_spliced ?_
    refine spliced_cons (ld_glob S3 g1 m1 (spliced_cons (ld_glob S3 g2 m2 (spliced_cons (ld_glob S3 g3 m3 (spliced_nil ⟨(by decide : 3 ≤ sizeLine), ?_⟩) d3)) d2)) d1)
    have k4 : ∀ b o, h3.get? b = some o → (h3.push { cls := .type "tuple", data := .seq [Value.ref c1, .ref c2, .ref c3].toArray }).get? b = some o := fun b o e => Heap.get?_push_of_some _ e
    have fl4 := flying_keeps fl3 k4
    have up4 : h3.UpToSlots (h3.push { cls := .type "tuple", data := .seq [Value.ref c1, .ref c2, .ref c3].toArray }) := Heap.UpToSlots.of_keeps k4
    have J4 : Inv X pins σ' H' { s' with heap := h3.push { cls := .type "tuple", data := .seq [Value.ref c1, .ref c2, .ref c3].toArray } } := J.landed nb fl4.1 ((up.trans up3).trans up4) os ag
    obtain ⟨oe4, ws4, he4, hz4, hd4⟩ := fl4.there
    have LT : PySem.W.Looks (model X.prog X.w) (h3.push { cls := .type "tuple", data := .seq [Value.ref c1, .ref c2, .ref c3].toArray }) (typeOf (.ref a)) (.ref C) := fun A Q E s k q => wpAny_typeOf_ref (k _ _ he4) (by rw [hz4.1]; exact q)
    refine (PySem.W.exm_tup3 J4.kIn LT (Heap.get?_push_size _ rfl) hm).here ?_
    refine codeAny_handlers_suite_as ?_
    refine HandSPX.lands_againZ fl4 fun h5 fl5 up5 => ?_
    have J5 : Inv X pins σ' H' { s' with heap := h5 } := J.landed nb fl5.1 (((up.trans up3).trans up4).trans up5) os ag
    obtain ⟨oe5, ws5, he5, hz5, hd5⟩ := fl5.there
    have J6 : Inv X pins σ' (upd H' a (exV a C dx)) { s' with heap := h5 } := by
      refine Inv.track J5 na no0 nL nC nP ?_
      exact ⟨⟨oe5, he5, hz5.1, hz5.2, ws5, hd5⟩, ⟨_, he5⟩, fun h1 h2 ⟨o1, q1, q2⟩ k => ⟨o1, k _ q1, q2⟩⟩
    have S6 : Inv (X.suite a (X.pn ++ pins)) [] σ' (upd H' a (exV a C dx)) { s' with heap := h5 } := inv_suite J6
    refine store_ok (X := X.suite a (X.pn ++ pins)) (v := .ref a) S6 hN hi own rfl (fun s5 S5 => ?_) (.inr hln)
    refine wpAny_mono ((hsu a (X.pn ++ pins)).run [] s5 _ _ _ S5 (hgo a σ' na J.len)) (fun f s6 hsp => ?_) (fun _ _ z => False.elim z)
    have fin : ∀ {σ6 : L2.St} {H6 : Hp} {Q : Shared → Prop}, Inv (X.suite a (X.pn ++ pins)) [] σ6 H6 s6 → (∀ s7, Inv X pins (σ6.set i none) H6 s7 → Q s7) →
        wpAny (model X.prog X.w) X.A (do bindName X.env n .none; unbindBehindTheSuite X.env n pos') (fun _ s7 => Q s7) X.xe s6 := fun S hq => gone_ok (inv_unsuite S ok) hN hi hln hq
    cases f with
    | next =>
      obtain ⟨σ6, H6, S, q6⟩ := hsp
      exact fin S fun s7 J7 => ⟨_, _, J7, q6⟩
    | brk =>
      obtain ⟨σ6, H6, S, q6⟩ := hsp
      exact fin S fun s7 J7 => ⟨_, _, J7, q6⟩
    | cont =>
      obtain ⟨σ6, H6, S, q6⟩ := hsp
      exact fin S fun s7 J7 => ⟨_, _, J7, q6⟩
    | ret u =>
      obtain ⟨v6, σ6, H6, S, r6, q6⟩ := hsp
      exact fin S fun s7 J7 => ⟨_, _, _, J7, r6, q6⟩
  · cases f with
    | next =>
      obtain ⟨σ', H', J', q⟩ := hsp
      exact wpAny_execs_nil ⟨σ', H', J'.ofTry ok, q⟩
    | brk =>
      obtain ⟨σ', H', J', q⟩ := hsp
      exact ⟨σ', H', J'.ofTry ok, q⟩
    | cont =>
      obtain ⟨σ', H', J', q⟩ := hsp
      exact ⟨σ', H', J'.ofTry ok, q⟩
    | ret u =>
      obtain ⟨v, σ', H', J', r, q⟩ := hsp
      exact ⟨v, σ', H', J'.ofTry ok, r, q⟩
end
end DL

namespace DL
open PySem PySem.Spec PyProof.Rows L2 PySem.Calls
/-! ### a lambda is made -/
/-- what stands at the table, behind the asking for the code at pos -/
def CodeAt (s h' : Heap) (P : Addr) (ps : Array Value) (pos : Pos) (qual : Str) (cv : Value) : Prop :=
  (codeAmong pos ps.toList = some cv ∧ h'.get? P = some (PySem.W.tabObj ps)) ∨
  (codeAmong pos ps.toList = none ∧ ∃ c', cv = .ref c' ∧ s.objs.size ≤ c' ∧ c' < h'.objs.size ∧ h'.CodeRec (.ref c') qual ∧ h'.get? P = some (PySem.W.tabObj (ps ++ #[rawInt pos.line, rawInt pos.col, .ref c'])))
section
variable {M : Model} {A : Around} {E : Value → Shared → Prop} {s : Shared} {qual : Str} {params : Arguments} {body : Expr} {scope : Scope} {env : Env} {c P : Addr} {ps : Array Value} {pos : Pos} {fl : Nat} {mg : Str → Option Value} {clos : List (Str × Addr)} {dv : Value} {Q : Value → Shared → Prop}
theorem code_asked {h0 : Heap} {Q : Value → Shared → Prop} (hcode : env.code = .ref c) (C : PySem.W.CodeHd s.heap c P) (hP : s.heap.get? P = some (PySem.W.tabObj ps)) (ht : TriplesOk ps.toList) (big : h0.objs.size ≤ s.heap.objs.size)
    (h : ∀ cv h' tk, Heap.ExtBut P s.heap h' → s.heap.objs.size ≤ h'.objs.size → CodeAt h0 h' P ps pos qual cv → Q cv { s with heap := h', toks := tk }) :
    wpAny M A (functionCode env pos fl "<lambda>" qual params scope (.expr body)) Q E s := by
  cases hc : codeAmong pos ps.toList with
  | some cv => exact wpAny_functionCode_hit hcode (C.code hP ht) hc (h cv s.heap s.toks (fun _ _ _ e => e) (Nat.le_refl _) (.inl ⟨hc, hP⟩))
  | none =>
    exact wpAny_functionCodeX hcode (C.code hP ht) (C.tab hP) hc fun c' h' tk hx hge hlt _ hrec htb _ =>
      h (.ref c') h' tk hx (Nat.le_trans hge (Nat.le_of_lt hlt)) (.inr ⟨hc, c', rfl, Nat.le_trans big hge, hlt, hrec, htb.2⟩)
theorem tail_made (hcl : closureFor scope env = pure clos) (hge0 : env.globals = mainGlobals) (hg : s.heap.Ns mainGlobals mg) (hcode : env.code = .ref c) (C : PySem.W.CodeHd s.heap c P) (hP : s.heap.get? P = some (PySem.W.tabObj ps)) (ht : TriplesOk ps.toList) (hgP : mainGlobals ≠ P) (hb : s.heap.BuiltinsAt mg P)
    (h : ∀ cv pm ctv h' tk, Heap.ExtBut P s.heap h' → s.heap.objs.size ≤ h'.objs.size → CodeAt s.heap h' P ps pos qual cv →
      Q (.ref h'.objs.size) { s with heap := h'.push { cls := .type "function", data := .func { name := "<lambda>", qualname := qual, params := params, body := .expr body, scope := scope, globals := mainGlobals, closure := clos, defaults := dv, kwdefaults := .none, doc := .none, pyModule := pm, annotations := none, code := cv, closureTuple := ctv, builtins := builtinsNs } }, toks := tk }) :
    wpAny M A (makeTail "<lambda>" qual params (.expr body) scope env dv .none none pos fl) Q E s := by
  obtain ⟨bm, ob, hbm, hne0, _, hneP, hbo, hcls, hdict, hdata⟩ := hb
  -- what follows the closure's tuple
  have rest : ∀ (ctv : Value) (s1 : Shared), s1.heap.objs.size ≥ s.heap.objs.size → (∀ b o, s.heap.get? b = some o → s1.heap.get? b = some o) → s1.gens = s.gens → s1.drawn = s.drawn → s1.os = s.os →
      wpAny M A (do
        let code ← functionCode env pos fl "<lambda>" qual params scope (.expr body)
        let bns ← builtinsFor mainGlobals env.builtins
        let pm ← nsGet mainGlobals "__name__"
        let doc ← (pure .none : Sem Value)
        newObj (.type "function") (.func { name := "<lambda>", qualname := qual, params := params, body := .expr body, scope := scope, globals := mainGlobals, closure := clos, defaults := dv, kwdefaults := .none, doc := doc, pyModule := pm.getD .none, annotations := none, code := code, closureTuple := ctv, builtins := bns })) Q E s1 := by
    intro ctv s1 hsz k e1 e2 e3
    have hg1 : s1.heap.Ns mainGlobals mg := hg.extBut (fun b o _ e => k b o e) hgP
    refine wpAny_bind (code_asked hcode (C.keeps k) (k _ _ hP) ht hsz fun cv h' tk hx hs hca => ?_)
    have hg' := hg1.extBut hx hgP
    refine wpAny_bind (wpAny_builtinsFor hg' hbm hne0 (hx _ _ hneP (k _ _ hbo)) hcls hdict hdata ?_)
    refine wpAny_bind (wpAny_nsGet hg' (wpAny_bind (wpAny_pure (wpAny_newObj_type ?_ (by size_fits)))))
    have q := h cv ((mg "__name__").getD .none) ctv h' tk (fun b o hb e => hx b o hb (k b o e)) (Nat.le_trans hsz hs) hca
    obtain ⟨h1, g1, d1, t1, o1⟩ := s1
    obtain ⟨h0, g0, d0, t0, o0⟩ := s
    dsimp only at e1 e2 e3 q ⊢
    subst e1; subst e2; subst e3
    exact q
  unfold makeTail
  rw [hcl, hge0]
  refine wpAny_bind (wpAny_pure ?_)
  cases clos with
  | nil => exact wpAny_bind (wpAny_pure (rest .none s (Nat.le_refl _) (fun _ _ e => e) rfl rfl rfl))
  | cons q r => exact wpAny_bind (wpAny_newTextTuple (rest _ _ (by rw [Heap.size_push]; omega) (fun b o e => Heap.get?_push_of_some _ e) rfl rfl rfl))
end
end DL

namespace DL
open PySem PySem.Spec PyProof.Rows L2 PySem.Calls
/-- a lambda's free names are the def's own captured ones -/
def LamF (sc scope : Scope) : Prop := ∀ y ∈ scope.names, y.2 = .free → sc.names.lookup y.1 = some .cell ∨ sc.names.lookup y.1 = some .free
def lamFB (sc scope : Scope) : Bool := scope.names.all fun y => !decide (y.2 = .free) || (decide (sc.names.lookup y.1 = some .cell) || decide (sc.names.lookup y.1 = some .free))
theorem lamF_by {sc scope : Scope} (h : lamFB sc scope = true) : LamF sc scope := fun y hy e => by
  have z := List.all_eq_true.mp h y hy
  rw [e] at z
  rcases Bool.or_eq_true_iff.mp z with z | z
  · exact absurd z (by decide)
  · exact (Bool.or_eq_true_iff.mp z).imp of_decide_eq_true of_decide_eq_true
theorem LamF.has {X : Cx} {scope : Scope} (L : LamF X.env.scope scope) (ok : X.Ok) : ∀ y ∈ scope.names, y.2 = .free → ∃ c, X.env.cells.lookup y.1 = some c := fun y hy e => (L y hy e).elim (fun k => ok.has _ (.inl k)) fun k => ok.has _ (.inr k)
/-- from H to H1 a lambda of the name q is made, the table at P is written -/
structure LamStep (H H1 : Hp) (P f c' : Addr) (L : Lam) (κ : List (Str × Addr)) (dT : Option Addr) : Prop where
  keep : ∀ a o, H a = some o → notTbl o → H1 a = some o
  tbl : ∀ a ps, H a = some (.tbl ps) → ∃ qs, H1 a = some (.tbl qs)
  tabP : LamX.TabS H1 P L.qual
  tabs : ∀ P' q', P' ≠ P → LamX.TabS H P' q' → LamX.TabS H1 P' q'
  nf : H f = none
  fn : H1 f = some (lamO f L κ dT c')
  nc : H c' = none ∨ H c' = some (LamX.CodeO c' L.qual)
  code : H1 c' = some (LamX.CodeO c' L.qual)
  nfc : f ≠ c'
section
variable {X : Cx} {pins : List (Addr × Obj)} {σ : L2.St} {H : Hp} {s : Shared} {P c : Addr} {params : Arguments} {body : Expr} {scope : Scope} {pos : Pos} {fl : Nat} {dv : Value} {dT : Option Addr} {Q : Value → Shared → Prop} {E : Value → Shared → Prop}
theorem lam_core {df : Bool} {fv : List Str} (I : Inv X pins σ H s) (TB : LamX.TabB X.base X.mg c P) (hcode : X.env.code = .ref c) (hT : LamX.TabS H P (X.env.qual ++ "<lambda>")) (hfree : ∀ y ∈ scope.names, y.2 = .free → ∃ c, X.env.cells.lookup y.1 = some c)
    (hdv : dv = dfV dT)
    (h : ∀ f c' H1 s', Inv X pins σ H1 s' → LamStep H H1 P f c' ⟨X.env.qual ++ "<lambda>", params, body, scope, df, fv⟩ (cloFrom X.env.cells scope.names []) dT → Q (.ref f) s') :
    wpAny (model X.prog X.w) X.A (makeTail "<lambda>" (X.env.qual ++ "<lambda>") params (.expr body) scope X.env dv .none none pos fl) Q E s := by
  obtain ⟨ps, hP, ht, ha⟩ := hT
  have bP : s.heap.BuiltinsAt X.mg P := TB.bm.keeps I.bk
  have hP' : s.heap.get? P = some { cls := .none, data := .fields ps } := I.hok P _ hP
  refine tail_made (clos := cloFrom X.env.cells scope.names []) (mg := X.mg) (c := c) (P := P) (ps := ps) (closure_ok hfree) I.ok.glob (I.mod.glob.keeps I.bk) hcode (TB.code.keeps I.bk) hP' ht TB.gP bP fun cv pm ctv h' tk hx hsz hca => ?_
  -- a new object, told by what is true of it
  have lay : ∀ {H2 : Hp} {c' : Addr}, Inv X pins σ H2 { s with heap := h', toks := tk } → cv = .ref c' →
      Inv X pins σ (upd H2 h'.objs.size (lamO h'.objs.size ⟨X.env.qual ++ "<lambda>", params, body, scope, df, fv⟩ (cloFrom X.env.cells scope.names []) dT c'))
        { s with heap := h'.push { cls := .type "function", data := .func { name := "<lambda>", qualname := X.env.qual ++ "<lambda>", params := params, body := .expr body, scope := scope, globals := mainGlobals, closure := cloFrom X.env.cells scope.names [], defaults := dv, kwdefaults := .none, doc := .none, pyModule := pm, annotations := none, code := cv, closureTuple := ctv, builtins := builtinsNs } }, toks := tk } := by
    intro H2 c' J e
    subst e; subst hdv
    have hget := Heap.get?_push_size h' (o := { cls := .type "function", data := .func { name := "<lambda>", qualname := X.env.qual ++ "<lambda>", params := params, body := .expr body, scope := scope, globals := mainGlobals, closure := cloFrom X.env.cells scope.names [], defaults := dfV dT, kwdefaults := .none, doc := .none, pyModule := pm, annotations := none, code := Value.ref c', closureTuple := ctv, builtins := builtinsNs } }) rfl
    exact J.laid (t' := tk) (fun b o z => Heap.get?_push_of_some _ z) (Nat.le_refl _) ⟨⟨pm, ctv, hget⟩, ⟨_, hget⟩, fun h1 h2 ⟨a, b, z⟩ k => ⟨a, b, k _ z⟩⟩
  have newF : ∀ {H2 : Hp}, Inv X pins σ H2 { s with heap := h', toks := tk } → H2 h'.objs.size = none := fun J => J.hok.fresh (Nat.le_refl _)
  have nfr : H h'.objs.size = none := I.hok.fresh hsz
  rcases hca with ⟨hc, hP2⟩ | ⟨hc, c', e, hge, hlt, hrec, htb⟩
  · obtain ⟨c', e, hco⟩ := ha pos cv hc
    have I1 : Inv X pins σ H { s with heap := h', toks := tk } := I.kept fun b o z => by
      by_cases hb : b = P
      · rw [hb, hP'] at z
        cases z
        rw [hb]
        exact hP2
      · exact hx b o hb z
    refine h _ c' _ _ (lay I1 e) ⟨fun a o z _ => by rw [upd_ne (ne_of_none z nfr)]; exact z, fun a qs z => ⟨qs, by rw [upd_ne (ne_of_none z nfr)]; exact z⟩, ?_, fun P' q' _ z => z.ext fun a o z => by rw [upd_ne (ne_of_none z nfr)]; exact z, nfr, upd_same, .inr hco, by rw [upd_ne (ne_of_none hco nfr)]; exact hco, (ne_of_none hco nfr).symm⟩
    exact LamX.TabS.ext ⟨ps, hP, ht, ha⟩ fun a o z => by rw [upd_ne (ne_of_none z nfr)]; exact z
  · obtain ⟨c2, oc, vs, t, e2, hoc, hd, hv⟩ := hrec
    cases e2
    have nC : H c' = none := I.hok.fresh hge
    have I1 := LamX.inv_table (t' := tk) (more := #[rawInt pos.line, rawInt pos.col, .ref c']) I hP hx htb hge ⟨oc, vs, t, hoc, hd, hv⟩
    have nf1 := newF I1
    have st : ∀ a o, H a = some o → (∀ qs, o ≠ .tbl qs) → upd (upd H P (.tbl (ps ++ #[rawInt pos.line, rawInt pos.col, .ref c']))) c' (LamX.CodeO c' (X.env.qual ++ "<lambda>")) a = some o := fun a o z n => by
      rw [upd_ne (ne_of_none z nC), upd_ne fun e => ?_]
      · exact z
      · rw [e, hP] at z
        exact n ps (Option.some.inj z).symm
    have eL : (ps ++ #[rawInt pos.line, rawInt pos.col, .ref c']).toList = ps.toList ++ [rawInt pos.line, rawInt pos.col, .ref c'] := by simp
    have tP : LamX.TabS (upd (upd H P (.tbl (ps ++ #[rawInt pos.line, rawInt pos.col, .ref c']))) c' (LamX.CodeO c' (X.env.qual ++ "<lambda>"))) P (X.env.qual ++ "<lambda>") := by
      refine ⟨_, by rw [upd_ne (ne_of_none hP nC), upd_same], by rw [eL]; exact PySem.TriplesOk_snoc _ _ _ _ ht, fun p' cw hcw => ?_⟩
      rw [eL] at hcw
      rcases LamX.among_app _ ht hcw with z | z
      · obtain ⟨c0, e1, e2⟩ := ha p' cw z
        exact ⟨c0, e1, st _ _ e2 fun qs => LamX.codeO_ne qs⟩
      · exact ⟨c', z, upd_same⟩
    have up : ∀ a o, upd (upd H P (.tbl (ps ++ #[rawInt pos.line, rawInt pos.col, .ref c']))) c' (LamX.CodeO c' (X.env.qual ++ "<lambda>")) a = some o → upd (upd (upd H P (.tbl (ps ++ #[rawInt pos.line, rawInt pos.col, .ref c']))) c' (LamX.CodeO c' (X.env.qual ++ "<lambda>"))) h'.objs.size (lamO h'.objs.size ⟨X.env.qual ++ "<lambda>", params, body, scope, df, fv⟩ (cloFrom X.env.cells scope.names []) dT c') a = some o := fun a o z => by
      rw [upd_ne (ne_of_none z nf1)]
      exact z
    refine h _ c' _ _ (lay I1 e) ⟨fun a o z n => up a o (st a o z n), fun a qs z => ?_, tP.ext up, fun P' q' hne hT' => ?_, nfr, upd_same, .inl nC, up _ _ upd_same, Nat.ne_of_gt hlt⟩
    · by_cases hb : a = P
      · subst hb
        exact ⟨_, up _ _ (by rw [upd_ne (ne_of_none z nC), upd_same])⟩
      · exact ⟨qs, up _ _ (by rw [upd_ne (ne_of_none z nC), upd_ne hb]; exact z)⟩
    · obtain ⟨ps', a1, a2, a3⟩ := hT'
      refine LamX.TabS.ext ⟨ps', by rw [upd_ne (ne_of_none a1 nC), upd_ne hne]; exact a1, a2, fun p' cw hcw => ?_⟩ up
      obtain ⟨c0, e1, e2⟩ := a3 p' cw hcw
      exact ⟨c0, e1, st _ _ e2 fun qs => LamX.codeO_ne qs⟩
theorem kok_of (L : LamF X.env.scope scope) (ok : X.Ok) {q : Str} {df : Bool} {fv : List Str} (nm : LamN ⟨q, params, body, scope, df, fv⟩ fv) : KOk ⟨q, params, body, scope, df, fv⟩ (cloFrom X.env.cells scope.names []) := by
  have cm : ∀ {y c}, (cloFrom X.env.cells scope.names []).lookup y = some c → (y, NameKind.free) ∈ scope.names ∧ X.env.cells.lookup y = some c := fun {y c} e => by
    rcases cloFrom_mem (PySem.mem_of_lookup e) with hm | ⟨h1, h2⟩
    · cases hm
    · obtain ⟨c1, hc⟩ := L.has ok _ h1 rfl
      have hc : X.env.cells.lookup y = some c1 := hc
      have e2 : c = c1 := by rw [h2, hc] <;> rfl
      exact ⟨h1, e2 ▸ hc⟩
  refine ⟨nm, fun x c e => (cm e).1, fun x y c e1 e2 => ok.inj x y c (cm e1).2 (cm e2).2, fun y hy e => ?_⟩
  have hy' : (y.1, NameKind.free) ∈ scope.names := by rw [← e]; exact hy
  exact mem_lookup (cloFrom_has (cells := X.env.cells) (acc := []) hy')
/-- the reading of a lambda -/
def tLm (P : Addr) (L : Lam) (κ : List (Str × Addr)) : TE := fun _ H Q => LamX.TabS H P L.qual ∧ ∀ (dT : Option Addr) (H0 H1 : Hp) (f c' : Addr), KOk L κ → dT.isSome = L.df → (match dT with | none => H0 = H | some T => H T = none ∧ ∃ z, H0 = upd H T (.tup [z])) → LamStep H0 H1 P f c' L κ dT → Q (.ref f) H1
theorem pe_lam0 {fv : List Str} (nm : LamN ⟨X.env.qual ++ "<lambda>", params, body, scope, false, fv⟩ fv) (TB : LamX.TabB X.base X.mg c P) (hcode : X.env.code = .ref c) (L : LamF X.env.scope scope) (hdef : defaultsOf params X.env = ([], [])) :
    PE X (.Lambda params body scope pos) (tLm P ⟨X.env.qual ++ "<lambda>", params, body, scope, false, fv⟩ (cloFrom X.env.cells scope.names [])) := by
  refine ⟨fun pins s σ H Q I ⟨hT, h⟩ => PySem.W.kla_eval hdef ?_⟩
  rw [makeFunction_eq]
  simp only [List.zip_nil_right, List.filterMap_nil, List.isEmpty_nil, if_true, pure_bind]
  exact lam_core I TB hcode hT (L.has I.ok) (dT := none) rfl fun f c' H1 s' J st => ⟨.ref f, H1, J, rfl, h none H H1 f c' (kok_of L I.ok nm) rfl rfl st⟩
theorem pe_lam1 {fv : List Str} (nm : LamN ⟨X.env.qual ++ "<lambda>", params, body, scope, true, fv⟩ fv) {z : Int} {j : Nat} {dp : Pos} (TB : LamX.TabB X.base X.mg c P) (hcode : X.env.code = .ref c) (L : LamF X.env.scope scope) (hdef : defaultsOf params X.env = ([eval (.Constant (.int z) j dp) X.env], [])) (hk : params.kwonlyargs = []) :
    PE X (.Lambda params body scope pos) (tLm P ⟨X.env.qual ++ "<lambda>", params, body, scope, true, fv⟩ (cloFrom X.env.cells scope.names [])) := by
  refine ⟨fun pins s σ H Q I ⟨hT, h⟩ => ?_⟩
  rw [arm_eval_Lambda, hdef]
  show wpAny _ _ (do
    let dv ← (do
      let v ← eval (.Constant (.int z) j dp) X.env
      return v :: (← holding [v] (evalAll [])))
    let kdv ← holding dv (evalAllOpt [])
    makeFunction "<lambda>" (X.env.qual ++ "<lambda>") params (.expr body) scope X.env dv kdv [] pos pos.line) _ _ _
  refine wpAny_bind (wpAny_bind (thn ((pe_int (X := X)).run pins s σ H (fun v H1 => v = .int z ∧ H1 = H) I ⟨rfl, rfl⟩) fun u s1 ⟨v, H1, I1, rv, q1, q2⟩ => ?_))
  subst q1; subst q2
  refine wpAny_bind (wpAny_holding (wpAny_pure (wpAny_pure ?_)))
  refine wpAny_bind (wpAny_holding (wpAny_pure ?_))
  rw [makeFunction_eq]
  simp only [hk, List.zip_nil_right, List.zip_nil_left, List.filterMap_nil, List.isEmpty_nil, List.isEmpty_cons, Bool.false_eq_true, if_true, if_false, pure_bind]
  refine wpAny_bind (wpAny_newTextTuple ?_)
  have nT : H1 s1.heap.objs.size = none := I1.hok.fresh (Nat.le_refl _)
  have I2 : Inv X pins σ (upd H1 s1.heap.objs.size (.tup [.int z])) { s1 with heap := s1.heap.push { cls := .type "tuple", data := .seq [u].toArray } } :=
    I1.laid (t' := s1.toks) (fun b o e => Heap.get?_push_of_some _ e) (Nat.le_refl _) ⟨(by decide : 1 ≤ sizeLine), [u], .cons rv .nil, ⟨_, Heap.get?_push_size _ rfl, rfl, _, rfl⟩⟩
  exact lam_core I2 TB hcode (hT.ext fun a o e => by rw [upd_ne (ne_of_none e nT)]; exact e) (L.has I.ok) (dT := some s1.heap.objs.size) rfl fun f c' H2 s' J st => ⟨.ref f, H2, J, rfl, h (some _) _ H2 f c' (kok_of L I.ok nm) rfl ⟨nT, _, rfl⟩ st⟩
end
/-! ### .. as data -/
theorem LamStep.ext {b : Bg} {F H H1 : Hp} {P f c' : Addr} {L : Lam} {κ : List (Str × Addr)} {dT : Option Addr} (st : LamStep H H1 P f c' L κ dT) (k : Ok b F H) (hq : b.nm P = L.qual) (hf : ∀ T, dT = some T → ∃ z, F T = some (.tup [z])) (kk : KOk L κ) (kd : dT.isSome = L.df) : ∃ F1, Ext b F H F1 H1 ∧ Rep b F1 (.ref f) (.lam L κ) := by
  have x : Ext b F H F H1 := {
    keep := fun a o _ h n => st.keep a o h n
    grow := Sub.refl F
    sub := fun a o h => st.keep a o (k.1 a o h) (k.2.2.1 a o h)
    new := fun _ _ _ _ => rfl
    bag := BagOk.to k (Sub.refl F) (fun a e => k.bagF e) fun a o e h => by
      refine st.keep a o h fun ps z => ?_
      obtain ⟨_, q, _⟩ := k
      rw [e] at q
      obtain ⟨_, _, _, _, _, _, _, _, q1, _⟩ := q
      rw [q1] at h
      rw [← Option.some.inj h] at z
      cases z
    nt := k.2.2.1
    tbl := st.tbl
    tabs := fun P' hP => by
      by_cases e : P' = P
      · rw [e, hq]
        exact st.tabP
      · exact st.tabs P' _ e (k.2.2.2 P' hP)
    cell := fun a c r _ h => ⟨c, r, st.keep _ _ h .lst, .inl rfl⟩ }
  -- the code object, then the lambda's own
  have nF0 : F f = none := by
    cases q : F f with
    | none => rfl
    | some u =>
      have h := st.nf
      rw [k.1 _ _ q] at h
      cases h
  obtain ⟨F2, x2, hc, nF⟩ : ∃ F2, Ext b F H F2 H1 ∧ F2 c' = some (LamX.CodeO c' L.qual) ∧ F2 f = none := by
    cases q : F c' with
    | some u =>
      have e := x.sub _ _ q
      rw [st.code] at e
      exact ⟨F, x, by rw [q, ← Option.some.inj e], nF0⟩
    | none =>
      refine ⟨_, x.takeE q st.code fun u hu => ?_, upd_same, by rw [upd_ne st.nfc]; exact nF0⟩
      rcases st.nc with z | z <;> rw [z] at hu
      · cases hu
      · exact (Option.some.inj hu).symm
  have x3 := x2.takeE nF st.fn fun u hu => by rw [st.nf] at hu; cases hu
  refine ⟨_, x3, Rep.lam (c' := c') (dT := dT) upd_same ?_ kk kd fun T hT => ?_⟩
  · rw [upd_ne st.nfc.symm]
    exact hc
  · obtain ⟨z, hz⟩ := hf T hT
    exact ⟨z, x3.grow _ _ hz⟩
section
variable {X : Cx} {b : Bg} {P c : Addr} {params : Arguments} {body : Expr} {scope : Scope} {pos : Pos}
@[reducible] def dLam (L : Lam) (κ : List (Str × Addr)) : DT := fun _ Q => Q (.lam L κ)
theorem de_lam {L : Lam} {κ : List (Str × Addr)} (hP : P ∈ b.tb) (hq : b.nm P = L.qual) : DE b (tLm P L κ) (dLam L κ) := fun {Fm F0 H0 F H σ γ} Q n t Q' q => by
  refine ⟨by rw [← hq]; exact n.ok.2.2.2 P hP, fun dT H2 H1 f c' kk kd e st => ?_⟩
  cases dT with
  | none =>
    subst e
    obtain ⟨F1, x, r⟩ := st.ext n.ok hq (fun T z => by cases z) kk kd
    exact q _ _ _ _ x r t
  | some T =>
    obtain ⟨hT, z, e⟩ := e
    subst e
    have y := Ext.push (o := .tup [z]) n.ok hT
    obtain ⟨F1, x, r⟩ := st.ext y.ok hq (fun T' e => by cases e; exact ⟨z, upd_same⟩) kk kd
    exact q _ _ _ _ (y.trans x) r t
theorem x_lam0 {fv : List Str} (nm : LamN ⟨X.env.qual ++ "<lambda>", params, body, scope, false, fv⟩ fv) (TB : LamX.TabB X.base X.mg c P) (hcode : X.env.code = .ref c) (hP : P ∈ b.tb) (hq : b.nm P = X.env.qual ++ "<lambda>") (L : LamF X.env.scope scope) (hdef : defaultsOf params X.env = ([], []) := by rfl) :
    XE X b (.Lambda params body scope pos) (dLam ⟨X.env.qual ++ "<lambda>", params, body, scope, false, fv⟩ (cloFrom X.env.cells scope.names [])) := ⟨_, pe_lam0 nm TB hcode L hdef, de_lam hP hq⟩
theorem x_lam1 {fv : List Str} (nm : LamN ⟨X.env.qual ++ "<lambda>", params, body, scope, true, fv⟩ fv) {z : Int} {j : Nat} {dp : Pos} (TB : LamX.TabB X.base X.mg c P) (hcode : X.env.code = .ref c) (hP : P ∈ b.tb) (hq : b.nm P = X.env.qual ++ "<lambda>") (L : LamF X.env.scope scope) (hdef : defaultsOf params X.env = ([eval (.Constant (.int z) j dp) X.env], []) := by rfl) (hk : params.kwonlyargs = [] := by rfl) :
    XE X b (.Lambda params body scope pos) (dLam ⟨X.env.qual ++ "<lambda>", params, body, scope, true, fv⟩ (cloFrom X.env.cells scope.names [])) := ⟨_, pe_lam1 nm TB hcode L hdef hk, de_lam hP hq⟩
end
end DL

namespace DL
open PySem PySem.Spec PyProof.Rows L2 PySem.Calls
/-! ### cells told of and not told of -/
def lessL (H : Hp) (cs : List Addr) : Hp := fun a => if a ∈ cs then none else H a
def plusL (H : Hp) (cs : List Addr) (H' : Hp) : Hp := fun a => if a ∈ cs then H a else H' a
theorem lessL_in {H : Hp} {cs : List Addr} {a : Addr} (h : a ∈ cs) : lessL H cs a = none := if_pos h
theorem lessL_out {H : Hp} {cs : List Addr} {a : Addr} (h : a ∉ cs) : lessL H cs a = H a := if_neg h
theorem plusL_in {H H' : Hp} {cs : List Addr} {a : Addr} (h : a ∈ cs) : plusL H cs H' a = H a := if_pos h
theorem plusL_out {H H' : Hp} {cs : List Addr} {a : Addr} (h : a ∉ cs) : plusL H cs H' a = H' a := if_neg h
theorem lessL_sub {H : Hp} {cs : List Addr} {a : Addr} {o : HO} (h : lessL H cs a = some o) : a ∉ cs ∧ H a = some o := by
  by_cases e : a ∈ cs
  · rw [lessL_in e] at h; cases h
  · exact ⟨e, by rw [lessL_out e] at h; exact h⟩
/-- at cs stand cells that stand still -/
def Cells (H : Hp) (cs : List Addr) : Prop := ∀ c, c ∈ cs → ∃ (o : Obj) (u : Option Value), H c = some (cellO c o) ∧ o.data = .cell u
theorem Cells.out {H : Hp} {cs : List Addr} (k : Cells H cs) {a : Addr} {o : HO} (h : H a = some o) (n : notExt o) : a ∉ cs := fun z => by
  obtain ⟨ob, u, e, _⟩ := k a z
  rw [h] at e
  exact n _ (Option.some.inj e)
section
variable {P : Program} {w : World} {H H' H'' : Hp} {h h' : Heap} {cs : List Addr}
theorem cell_get (ok : HOk P w H h) {c : Addr} {o : Obj} (e : H c = some (cellO c o)) : h.get? c = some o := by
  have x : ObjOk P w H h c (.ext fun h => h.get? c = some o) := ok c _ e
  exact x.1
theorem hok_less (ok : HOk P w H h) (k : Cells H cs) : HOk P w (lessL H cs) h := fun b o e => by
  obtain ⟨hb, e⟩ := lessL_sub e
  exact (ok b o e).stay (fun _ _ _ q => q) (fun c q => by rw [lessL_out (k.out q fun _ z => by cases z)]; exact q) fun c xs q => by rw [lessL_out (k.out q fun _ z => by cases z)]; exact q
theorem hok_plus (ok : HOk P w H' h') (k : Cells H cs) (st : ∀ c o, c ∈ cs → H c = some (cellO c o) → h'.get? c = some o) (nn : ∀ c, c ∈ cs → H' c = none) : HOk P w (plusL H cs H') h' := fun b o e => by
  by_cases hb : b ∈ cs
  · rw [plusL_in hb] at e
    obtain ⟨ob, u, e1, e2⟩ := k b hb
    rw [e1] at e
    cases e
    have g := st b ob hb e1
    exact ⟨g, ⟨_, g⟩, fun h1 h2 z q => q _ z⟩
  · rw [plusL_out hb] at e
    have out : ∀ {c : Addr} {u : HO}, H' c = some u → c ∉ cs := fun e z => by rw [nn _ z] at e; cases e
    exact (ok b o e).stay (fun _ _ _ q => q) (fun c q => by rw [plusL_out (out q)]; exact q) fun c xs q => by rw [plusL_out (out q)]; exact q
/-- behind a call without the cells: with them -/
theorem CR.plus {outer : List Env} {s s' : Shared} {Q : VK} {E : L2.XK} {r : Result} (ok : HOk P w H s.heap) (k : Cells H cs) (frf : ∀ b ∈ frs outer, H b = none)
    (h : CR (L2.CX P w) outer P w (lessL H cs) s (fun v H' => (∀ c, c ∈ cs → H' c = none) → Q v (plusL H cs H')) (fun cls d H' => (∀ c, c ∈ cs → H' c = none) → E cls d (plusL H cs H')) r s') : CR (L2.CX P w) outer P w H s Q E r s' := by
  have nofs : ∀ c, c ∈ cs → c ∉ frs outer := fun c hc z => by
    obtain ⟨o, u, e, _⟩ := k c hc
    rw [frf c z] at e
    cases e
  have up : ∀ {b : Addr}, H b = none → b ∉ cs := fun {b} n z => by
    obtain ⟨o, u, e, _⟩ := k b z
    rw [n] at e
    cases e
  cases r with
  | ok fl =>
    cases fl with
    | ret u =>
      obtain ⟨v, H', os, bare, un, hok, rv, q⟩ := h
      have nn : ∀ c, c ∈ cs → H' c = none := fun c hc => by
        obtain ⟨o, u, e, _⟩ := k c hc
        exact un.free c o (cell_get ok e) (lessL_in hc) List.not_mem_nil
      refine ⟨v, plusL H cs H', os, bare, ⟨fun b o e n hb hx => un.keep b o e (by rw [lessL_out (up n)]; exact n) hb hx, fun b o e n hb hx => un.slot b o e (by rw [lessL_out (up n)]; exact n) hb hx, fun b o e n hx => by rw [plusL_out (up n)]; exact un.free b o e (by rw [lessL_out (up n)]; exact n) hx, un.there, fun b xs e => ?_, fun b o u e => ?_, fun b ps e => ?_⟩, ?_, rv, q nn⟩
      · have hb := k.out e fun _ z => by cases z
        rw [plusL_out hb]
        exact un.tups b xs (by rw [lessL_out hb]; exact e)
      · have hb := k.out e fun _ z => by cases z
        rw [plusL_out hb]
        exact un.frzs b o u (by rw [lessL_out hb]; exact e)
      · have hb := k.out e fun _ z => by cases z
        obtain ⟨more, h2⟩ := un.tbls b ps (by rw [lessL_out hb]; exact e)
        exact ⟨more, by rw [plusL_out hb]; exact h2⟩
      · exact hok_plus hok k (fun c o hc e => un.keep c o (cell_get ok e) (lessL_in hc) (nofs c hc) List.not_mem_nil) nn
    | next => exact h
    | brk => exact h
    | cont => exact h
  | error e =>
    obtain ⟨a, B, H', cls, d, ea, fl, hok, ub, na, os, ag, hE⟩ := h
    have nn : ∀ c, c ∈ cs → H' c = none := fun c hc => by
      obtain ⟨o, u, e, _⟩ := k c hc
      exact ub.free c o (cell_get ok e) (lessL_in hc)
    have st : ∀ c o, c ∈ cs → H c = some (cellO c o) → B.get? c = some o := fun c o hc e => ub.keep c o (cell_get ok e) (lessL_in hc) (nofs c hc)
    refine ⟨a, B, plusL H cs H', cls, d, ea, fl, hok_plus hok k st nn, ⟨fun b o e n hb => ub.keep b o e (by rw [lessL_out (up n)]; exact n) hb, ub.slot, fun b o e n => by rw [plusL_out (up n)]; exact ub.free b o e (by rw [lessL_out (up n)]; exact n), ub.there, fun b xs e => ?_, fun b o u e => ?_, fun b ps e => ?_⟩, ?_, os, ag, hE nn⟩
    · have hb := k.out e fun _ z => by cases z
      rw [plusL_out hb]
      exact ub.tups b xs (by rw [lessL_out hb]; exact e)
    · have hb := k.out e fun _ z => by cases z
      rw [plusL_out hb]
      exact ub.frzs b o u (by rw [lessL_out hb]; exact e)
    · have hb := k.out e fun _ z => by cases z
      obtain ⟨more, h2⟩ := ub.tbls b ps (by rw [lessL_out hb]; exact e)
      exact ⟨more, by rw [plusL_out hb]; exact h2⟩
    · have ha : a ∉ cs := fun z => by
        obtain ⟨o, u, e, _⟩ := k a z
        have h1 := st a o z e
        rw [fl.2.1] at h1
        cases h1
      rw [plusL_out ha]
      exact na
/-- behind a call with the cells told of: without them -/
theorem CR.minus {CX : CXT} {outer : List Env} {s s' : Shared} {Q : VK} {E : L2.XK} {r : Result} (k : Cells (plusL H' cs H) cs) (nn : ∀ c, c ∈ cs → H c = none) (ok : HOk P w (plusL H' cs H) s.heap) (hx : ∀ e, ¬ CX outer (plusL H' cs H) s E0 e s')
    (h : CR CX outer P w (plusL H' cs H) s (fun v H2 => (∀ c, c ∈ cs → H2 c = H' c) ∧ Q v (lessL H2 cs)) E0 r s') : CR CX outer P w H s Q E r s' := by
  cases r with
  | ok fl =>
    cases fl with
    | ret u =>
      obtain ⟨v, H2, os, bare, un, hok, rv, hc, q⟩ := h
      have k2 : Cells H2 cs := fun c z => by
        obtain ⟨o, u, e1, e2⟩ := k c z
        rw [plusL_in z] at e1
        exact ⟨o, u, by rw [hc c z]; exact e1, e2⟩
      refine ⟨v, lessL H2 cs, os, bare, ⟨fun b o e n hb hx => ?_, fun b o e n hb hx => ?_, fun b o e n hx => ?_, un.there, fun b xs e => ?_, fun b o u e => ?_, fun b ps e => ?_⟩, hok_less hok k2, rv, q⟩
      · by_cases z : b ∈ cs
        · obtain ⟨ob, u, e1, _⟩ := k b z
          have g := cell_get ok e1
          rw [e] at g
          cases g
          rw [plusL_in z] at e1
          exact cell_get hok (by rw [hc b z]; exact e1)
        · exact un.keep b o e (by rw [plusL_out z]; exact n) hb hx
      · by_cases z : b ∈ cs
        · obtain ⟨ob, u, e1, _⟩ := k b z
          have g := cell_get ok e1
          rw [e] at g
          cases g
          rw [plusL_in z] at e1
          exact ⟨o.slots, cell_get hok (by rw [hc b z]; exact e1)⟩
        · exact un.slot b o e (by rw [plusL_out z]; exact n) hb hx
      · by_cases z : b ∈ cs
        · exact lessL_in z
        · rw [lessL_out z]
          exact un.free b o e (by rw [plusL_out z]; exact n) hx
      · have z : b ∉ cs := fun z => by rw [nn b z] at e; cases e
        rw [lessL_out z]
        exact un.tups b xs (by rw [plusL_out z]; exact e)
      · have z : b ∉ cs := fun z => by rw [nn b z] at e; cases e
        rw [lessL_out z]
        exact un.frzs b o u (by rw [plusL_out z]; exact e)
      · have z : b ∉ cs := fun z => by rw [nn b z] at e; cases e
        obtain ⟨more, h2⟩ := un.tbls b ps (by rw [plusL_out z]; exact e)
        exact ⟨more, by rw [lessL_out z]; exact h2⟩
    | next => exact h
    | brk => exact h
    | cont => exact h
  | error e => exact (hx e h).elim
end
end DL

namespace DL
open PySem PySem.Spec PyProof.Rows L2 PySem.Calls
mutual
/-- no exception and no function within -/
def noEx : Dt → Bool
  | .lst xs => noExL xs
  | .tup xs => noExL xs
  | .ins _ fs => noExF fs
  | .dT kvs => noExD kvs
  | .dK kvs => noExF kvs
  | .exc _ _ => false
  | .lam _ _ => false
  | .clo _ _ => false
  | _ => true
def noExL : List Dt → Bool
  | [] => true
  | x :: xs => noEx x && noExL xs
def noExF : List (Str × Dt) → Bool
  | [] => true
  | (_, x) :: xs => noEx x && noExF xs
def noExD : List (List Key × Dt) → Bool
  | [] => true
  | (_, x) :: xs => noEx x && noExD xs
end
section
variable {b : Bg} {F H : Hp} {cs : List Addr}
mutual
theorem rep_lessL (k : Cells F cs) : ∀ {d : Dt} {v : V}, Rep b F v d → noEx d = true → Rep b (lessL F cs) v d
  | .non, _, h, _ => by cases h; exact .non
  | .bl _, _, h, _ => by cases h; exact .bl _
  | .int _, _, h, _ => by cases h; exact .int _
  | .str _, _, h, _ => by cases h; exact .str _
  | .lst xs, _, h, p => by
    cases h with
    | lst e r => exact .lst (by rw [lessL_out (k.out e fun _ z => by cases z)]; exact e) (repL_lessL k r p)
  | .tup xs, _, h, p => by
    cases h with
    | tup e r => exact .tup (by rw [lessL_out (k.out e fun _ z => by cases z)]; exact e) (repL_lessL k r p)
  | .ins C fs, _, h, p => by
    cases h with
    | ins e r => exact .ins (by rw [lessL_out (k.out e fun _ z => by cases z)]; exact e) (repF_lessL k r p)
  | .dT kvs, _, h, p => by
    cases h with
    | dT e r => exact .dT (by rw [lessL_out (k.out e fun _ z => by cases z)]; exact e) (repD_lessL k r p)
  | .dK kvs, _, h, p => by
    cases h with
    | dK e r => exact .dK (by rw [lessL_out (k.out e fun _ z => by cases z)]; exact e) (repF_lessL k r p)
  | .ptr _, _, h, _ => by cases h; exact .ptr _
  | .bag, _, h, _ => by
    cases h with
    | bag e => exact .bag e
  | .exc _ _, _, h, p => by cases p
  | .lam _ _, _, h, p => by cases p
  | .clo _ _, _, h, p => by cases p
theorem repL_lessL (k : Cells F cs) : ∀ {ds : List Dt} {vs : List V}, RepL b F vs ds → noExL ds = true → RepL b (lessL F cs) vs ds
  | [], _, h, _ => by cases h; exact .nil
  | d :: ds, _, h, p => by
    cases h with
    | cons r t =>
      have p2 := (Bool.and_eq_true _ _).mp (show (noEx d && noExL ds) = true from p)
      exact .cons (rep_lessL k r p2.1) (repL_lessL k t p2.2)
theorem repF_lessL (k : Cells F cs) : ∀ {ds : List (Str × Dt)} {vs : List (Str × V)}, RepF b F vs ds → noExF ds = true → RepF b (lessL F cs) vs ds
  | [], _, h, _ => by cases h; exact .nil
  | (n, d) :: ds, _, h, p => by
    cases h with
    | cons r t =>
      have p2 := (Bool.and_eq_true _ _).mp (show (noEx d && noExF ds) = true from p)
      exact .cons (rep_lessL k r p2.1) (repF_lessL k t p2.2)
theorem repD_lessL (k : Cells F cs) : ∀ {ds : List (List Key × Dt)} {vs : List (List Key × V)}, RepD b F vs ds → noExD ds = true → RepD b (lessL F cs) vs ds
  | [], _, h, _ => by cases h; exact .nil
  | (n, d) :: ds, _, h, p => by
    cases h with
    | cons r t =>
      have p2 := (Bool.and_eq_true _ _).mp (show (noEx d && noExD ds) = true from p)
      exact .cons (rep_lessL k r p2.1) (repD_lessL k t p2.2)
end
theorem Cells.up (k : Cells F cs) (s : Sub F H) : Cells H cs := fun c h => by
  obtain ⟨o, u, e1, e2⟩ := k c h
  exact ⟨o, u, s _ _ e1, e2⟩
theorem sub_less (s : Sub F H) : Sub (lessL F cs) (lessL H cs) := fun a o h => by
  obtain ⟨h1, h2⟩ := lessL_sub h
  rw [lessL_out h1]
  exact s a o h2
theorem tabS_lessL {P : Program} {w : World} {h : Heap} {p : Addr} {q : Str} (ok : HOk P w H h) (k : Cells H cs) (t : LamX.TabS H p q) : LamX.TabS (lessL H cs) p q := by
  obtain ⟨ps, h1, h2, h3⟩ := t
  refine ⟨ps, by rw [lessL_out (k.out h1 fun _ z => by cases z)]; exact h1, h2, fun pos cv hc => ?_⟩
  obtain ⟨c, e1, e2⟩ := h3 pos cv hc
  refine ⟨c, e1, ?_⟩
  rw [lessL_out fun z => ?_]
  · exact e2
  · obtain ⟨o, u, e3, e4⟩ := k c z
    have g := cell_get ok e3
    have x : ObjOk P w H h c (LamX.CodeO c q) := ok c _ e2
    obtain ⟨⟨oc, vs, t, y1, y2, _⟩, _⟩ := x
    rw [g] at y1
    cases y1
    rw [e4] at y2
    cases y2
theorem Ok.less {P : Program} {w : World} {h : Heap} (ok : Ok b F H) (hok : HOk P w H h) (k : Cells F cs) : Ok b (lessL F cs) (lessL H cs) := by
  have k2 := k.up ok.1
  obtain ⟨s, bg, nt, tb⟩ := ok
  refine ⟨sub_less s, ?_, fun a o z => nt a o (lessL_sub z).2, fun p hp => tabS_lessL hok k2 (tb p hp)⟩
  obtain ⟨bag, nm, tbs⟩ := b
  cases bag with
  | none => trivial
  | some a =>
    obtain ⟨b0, c, cs', i, v, m, z, hc, hb, q⟩ := bg
    refine ⟨?_, c, cs', i, v, m, z, by rw [lessL_out (k.out hc fun _ z => by cases z)]; exact hc, by rw [lessL_out (k2.out hb fun _ z => by cases z)]; exact hb, q⟩
    by_cases z : a ∈ cs
    · exact lessL_in z
    · rw [lessL_out z]; exact b0
theorem sub_plus {F' : Hp} (x : Sub (lessL F cs) F') : Sub F (plusL F cs F') := fun a o h => by
  by_cases z : a ∈ cs
  · rw [plusL_in z]; exact h
  · rw [plusL_out z]; exact x a o (by rw [lessL_out z]; exact h)
theorem sub_up {F' H' : Hp} (s : Sub F' H') (nn : ∀ c, c ∈ cs → H' c = none) : Sub F' (plusL F cs F') := fun a o h => by
  by_cases z : a ∈ cs
  · have := s a o h
    rw [nn a z] at this
    cases this
  · rw [plusL_out z]; exact h
theorem Ext.plus {F' H' : Hp} (k : Cells F cs) (ok : Ok b F H) (y : Ext b (lessL F cs) (lessL H cs) F' H') (nn : ∀ c, c ∈ cs → H' c = none) : Ext b F H (plusL F cs F') (plusL H cs H') := by
  have k2 := k.up ok.1
  have upH : ∀ a o, H' a = some o → plusL H cs H' a = some o := fun a o h => by
    by_cases z : a ∈ cs
    · rw [nn a z] at h; cases h
    · rw [plusL_out z]; exact h
  refine ⟨fun a o n h t => ?_, sub_plus y.grow, fun a o h => ?_, fun a o h ne => ?_, ?_, fun a o h => ?_, fun a ps h => ?_, fun p hp => (y.tabs p hp).ext upH, fun a c r e h => ?_⟩
  · by_cases z : a ∈ cs
    · rw [plusL_in z]; exact h
    · rw [plusL_out z]; exact y.keep a o n (by rw [lessL_out z]; exact h) t
  · by_cases z : a ∈ cs
    · rw [plusL_in z] at h ⊢; exact ok.1 a o h
    · rw [plusL_out z] at h ⊢; exact y.sub a o h
  · have z := k2.out h ne
    rw [plusL_out z, y.new a o (by rw [lessL_out z]; exact h) ne, lessL_out z]
  · obtain ⟨bag, nm, tbs⟩ := b
    cases bag with
    | none => trivial
    | some a =>
      obtain ⟨_, bg, _⟩ := ok
      obtain ⟨b0, _, _, _, _, _, _, _, hb0, _⟩ := bg
      have za : a ∉ cs := k2.out hb0 fun _ z => by cases z
      obtain ⟨b1, c, cs', i, v, m, z, hc, hb, q⟩ := y.bag
      exact ⟨by rw [plusL_out za]; exact b1, c, cs', i, v, m, z, sub_up y.sub nn _ _ hc, upH _ _ hb, q⟩
  · by_cases z : a ∈ cs
    · rw [plusL_in z] at h; exact ok.2.2.1 a o h
    · rw [plusL_out z] at h; exact y.nt a o h
  · have z := k2.out h fun _ z => by cases z
    obtain ⟨qs, h2⟩ := y.tbl a ps (by rw [lessL_out z]; exact h)
    exact ⟨qs, upH _ _ h2⟩
  · have z := k2.out h fun _ z => by cases z
    obtain ⟨c', r', h2, q⟩ := y.cell a c r e (by rw [lessL_out z]; exact h)
    refine ⟨c', r', upH _ _ h2, ?_⟩
    rcases q with q | q
    · exact .inl q
    · by_cases zc : c' ∈ cs
      · obtain ⟨_, q', _⟩ := y.ok
        rw [e] at q'
        obtain ⟨_, c2, _, _, _, _, _, hc2, hb2, _⟩ := q'
        rw [h2] at hb2
        injection hb2 with hb2
        injection hb2 with hb2
        injection hb2 with hb2 _
        injection hb2 with hb2
        have := y.sub _ _ hc2
        rw [← hb2, nn c' zc] at this
        cases this
      · right
        rw [lessL_out zc] at q
        exact q
theorem RepX.plus {F' H' : Hp} {cls : Value} {d : Option Addr} {x : Xd} (y : Ext b (lessL F cs) (lessL H cs) F' H') (nn : ∀ c, c ∈ cs → H' c = none) (r : RepX b F' (lessL H cs) H' cls d x) : RepX b (plusL F cs F') H (plusL H cs H') cls d x := by
  obtain ⟨e, dx, vs, h1, h2, h3, h4, h5⟩ := r
  have z : dx ∉ cs := fun z => by rw [nn dx z] at h2; cases h2
  exact ⟨e, dx, vs, h1, by rw [plusL_out z]; exact h2, by rw [lessL_out z] at h3; exact h3, by rw [plusL_out z]; exact h4, h5.mono (sub_up y.sub nn)⟩
end
def cellsOf (N : List Str) (κ : List (Str × Addr)) : List Addr := N.filterMap fun y => κ.lookup y
/-! ### the context of a lambda's body -/
abbrev lamEnv (L : Lam) (κ : List (Str × Addr)) (l f c' : Addr) : Env := PySem.W.envX L.qual L.scope l f (.ref c') κ
def lamC (P : Program) (w : World) (K : PySem.W.Frag) (mg : Str → Option Value) (base : Heap) (N : List Str) (L : Lam) (κ : List (Str × Addr)) (A : Around) (outer : List Env) (s : Shared) (H : Hp) (E : L2.XK) (f c' : Addr) : Cx where
  prog := P
  w := w
  K := K
  mg := mg
  base := base
  A := A.deeper (lamEnv L κ s.heap.objs.size f c')
  N := N
  s_0 := s
  H_0 := H
  env := lamEnv L κ s.heap.objs.size f c'
  outer := outer
  stack := lamEnv L κ s.heap.objs.size f c' :: outer
  ex := []
  fn := fun _ => false
  calm := true
  pn := []
  xe := fun e s' => wpAny (model P w) (A.deeper (lamEnv L κ s.heap.objs.size f c')) (leaving (lamEnv L κ s.heap.objs.size f c') e) (fun _ s'' => L2.CX P w outer H s E e s'') (fun e' s'' => L2.CX P w outer H s E e' s'') s'
section
variable {P : Program} {w : World} {K : PySem.W.Frag} {mg : Str → Option Value} {base : Heap} {N : List Str} {L : Lam} {κ : List (Str × Addr)} {A : Around} {outer : List Env} {s : Shared} {H : Hp} {E : L2.XK} {f c' : Addr} {h₁ : Heap} {tk : Nat} {σ : L2.St}
theorem lam_inv (n : LamN L N) (kk : KOk L κ) (e0 : Env0 P w K mg base A outer s H) (hd : A.handled = none) (k : Cells H (cellsOf N κ)) (hl : σ.length = N.length)
    (cells : ∀ (i : Nat) (y : Str) (v : V), N[i]? = some y → σ[i]? = some (some v) → ∃ (c : Addr) (o : Obj) (u : Value), κ.lookup y = some c ∧ H c = some (cellO c o) ∧ o.data = .cell (some u) ∧ RelV v u)
    {m : Str → Option Value} (hns : h₁.Ns s.heap.objs.size m) (kp : ∀ b o, s.heap.get? b = some o → h₁.get? b = some o) :
    Inv (lamC P w K mg base N L κ A outer s (lessL H (cellsOf N κ)) E f c') [] σ (lessL H (cellsOf N κ)) { s with heap := h₁, toks := tk } := by
  have inC : ∀ {x c}, κ.lookup x = some c → c ∈ cellsOf N κ := fun {x c} e => List.mem_filterMap.mpr ⟨x, n.to x (kk.fr x c e), e⟩
  have noA : ∀ b : Addr, b ∉ (lamC P w K mg base N L κ A outer s (lessL H (cellsOf N κ)) E f c').ex := fun b z => absurd (show b ∈ ([] : List Addr) from z) List.not_mem_nil
  have lessN : ∀ {b : Addr}, H b = none → lessL H (cellsOf N κ) b = none := fun {b} z => by
    by_cases hb : b ∈ cellsOf N κ
    · exact lessL_in hb
    · rw [lessL_out hb]; exact z
  refine ⟨⟨e0.mod, n.kind, rfl, rfl, Nat.le_refl _, kk.inj, fun y hy => ?_, fun y c z _ => ?_, fun _ => hd, Around.frames_deeper e0.frames, .inr ⟨rfl, rfl⟩, fun b z => absurd z (noA b), fun b o e => ⟨(e0.bs b o e).1, lessN (e0.bs b o e).2⟩, e0.bsz, fun b _ _ => noA b, fun b z => absurd z (noA b), e0.funs, fun b hb => lessN (e0.frf b hb)⟩,
    rfl, e0.bare, Un.kept kp, ⟨m, hns, fun i y v e1 e2 e3 => ?_⟩, fun y c e => ?_, lessN (e0.hok.fresh (Nat.le_refl _)), fun y c e => lessL_in (inC e), fun q hq => absurd (show q ∈ ([] : List (Addr × Obj)) ++ [] from hq) (by simp), (hok_less e0.hok k).kept kp, hl⟩
  · have hy : L.scope.names.lookup y = some .cell ∨ L.scope.names.lookup y = some .free := hy
    rcases hy with hy | hy
    · exact absurd rfl (n.cell _ (PySem.mem_of_lookup hy))
    · exact kk.has _ (PySem.mem_of_lookup hy) rfl
  · have z : false = true := z
    cases z
  · obtain ⟨c, o, u, h1, h2, h3, h4⟩ := cells i y v e1 e2
    exact ⟨u, h4, .inr ⟨.inr (n.fr y (List.mem_of_getElem? e1)), c, h1, o, kp _ _ (cell_get e0.hok h2), h3⟩⟩
  · obtain ⟨o, u, h1, h2⟩ := k c (inC e)
    exact ⟨u, o, kp _ _ (cell_get e0.hok h1), h2⟩
end
end DL

namespace DL
open PySem PySem.Spec PyProof.Rows L2 PySem.Calls
/-- how the lambda L behaves that is called: T from what its names hold -/
structure CloOk (P : Program) (w : World) (K : PySem.W.Frag) (mg : Str → Option Value) (base : Heap) (b : Bg) (k : Nat) (L : Lam) (T : List (Str × Dt) → (Dt → Prop) → (Xd → Prop) → Prop) : Prop where
  run : ∀ (A : Around) (outer : List Env) (s : Shared) (H F : Hp) (f : Addr) (ds : List (Str × Dt)) (Pq : Dt → Prop) (R : Xd → Prop) (Q : VK) (E : L2.XK), Room k A → Env0 P w K mg base A outer s H → Ok b F H → Rep b F (.ref f) (.clo L ds) → T ds Pq R →
    (∀ v d F' H', Ext b F H F' H' → Rep b F' v d → Pq d → Q v H') → (∀ cls d x F' H', Ext b F H F' H' → RepX b F' H H' cls d x → R x → E cls d H') →
    codeAny (model P w) A (.call (.ref f) ⟨[], []⟩) (CR (L2.CX P w) outer P w H s Q E) s
/-- the lambda's parameters: none, or one that has its default -/
def LamB (L : Lam) : Prop := match L.df with
  | false => ∀ (κ : List (Str × Addr)) (pm ctv : Value) (c' : Addr), bindArgs { name := "<lambda>", params := L.params, scope := L.scope, qualname := L.qual, body := .expr L.body, closure := κ, globals := mainGlobals, kwdefaults := .none, defaults := .none, pyModule := pm, doc := .none, annotations := none, closureTuple := ctv, code := .ref c', builtins := builtinsNs } ⟨[], []⟩ = pure []
  | true => ∃ p : Str, L.scope.names.lookup p = some .local ∧ ∀ (κ : List (Str × Addr)) (pm ctv : Value) (c' T : Addr), ∃ k, bindArgs { name := "<lambda>", params := L.params, scope := L.scope, qualname := L.qual, body := .expr L.body, closure := κ, globals := mainGlobals, kwdefaults := .none, defaults := .ref T, pyModule := pm, doc := .none, annotations := none, closureTuple := ctv, code := .ref c', builtins := builtinsNs } ⟨[], []⟩ = seqItems? (.ref T) >>= k ∧ ∀ u, k (some #[u]) = pure [(p, u)]
section
variable {P : Program} {w : World} {K : PySem.W.Frag} {mg : Str → Option Value} {base : Heap} {b : Bg} {k : Nat} {L : Lam} {N : List Str}
theorem vals_look : ∀ {ds : List (Str × Dt)} {vs : List (Str × V)} {F : Hp}, RepF b F vs ds → vs.map (·.1) = ds.map (·.1) ∧ RepL b F (vs.map (·.2)) (ds.map (·.2))
  | [], _, _, h => by cases h; exact ⟨rfl, .nil⟩
  | (n, d) :: ds, _, _, h => by
    cases h with
    | cons r t =>
      obtain ⟨h1, h2⟩ := vals_look t
      exact ⟨by rw [List.map_cons, List.map_cons, h1], .cons r h2⟩
theorem clo_ok {T : List Dt → (Dt → Prop) → (Xd → Prop) → Prop} (n : LamN L N) (hB : LamB L)
    (hbody : ∀ (Y : Cx) (κ : List (Str × Addr)) (A : Around) (outer : List Env) (s : Shared) (H : Hp) (E : L2.XK) (f c' : Addr), Y = lamC P w K mg base N L κ A outer s H E f c' → Room k Y.A → ∀ (F0 H0 : Hp) (R : Xd → Prop), XM (lamC P w K mg base N L κ A outer s H E f c') b F0 H0 R →
      ∃ T', XEx (lamC P w K mg base N L κ A outer s H E f c') b F0 H0 L.body T' ∧ ∀ (ds : List Dt) (Q : Dt → Prop), ds.length = N.length → T ds Q R → T' (ds.map .val) Q) :
    CloOk P w K mg base b (k + 1) L (fun ds Q R => ds.map (·.1) = N ∧ noExF ds = true ∧ T (ds.map (·.2)) Q R) := by
  refine ⟨fun A outer s H F f ds Pq R Q E hr e0 ok r ⟨hn, hx, hT⟩ hq hE => ?_⟩
  cases r with
  | @clo _ c' _ κ dT vs _ ef ec kk kd et ev rf =>
  have of_ : ObjOk P w H s.heap f (lamO f L κ dT c') := e0.hok f _ (ok.1 _ _ ef)
  obtain ⟨⟨pm, ctv, hf⟩, _⟩ := of_
  have oc_ : ObjOk P w H s.heap c' (LamX.CodeO c' L.qual) := e0.hok c' _ (ok.1 _ _ ec)
  obtain ⟨⟨oc, ws, t, hoc, hdc, hvc⟩, _⟩ := oc_
  obtain ⟨hv1, hv2⟩ := vals_look rf
  have hvn : vs.map (·.1) = N := hv1.trans hn
  have lenv : vs.length = N.length := by rw [← hvn, List.length_map]
  have mem : ∀ {i : Nat} {y : Str}, N[i]? = some y → ∃ v, vs[i]? = some (y, v) := fun {i y} e => by
    rw [← hvn, List.getElem?_map] at e
    cases q : vs[i]? with
    | none => rw [q] at e; cases e
    | some p =>
      rw [q] at e
      cases e
      exact ⟨p.2, rfl⟩
  have kF : Cells F (cellsOf N κ) := fun c hc => by
    obtain ⟨y, hy, e⟩ := List.mem_filterMap.mp hc
    obtain ⟨i, hi⟩ := List.getElem?_of_mem hy
    obtain ⟨v, hv⟩ := mem hi
    obtain ⟨c1, o, u, h1, h2, h3, _⟩ := ev _ (List.mem_of_getElem? hv)
    have e1 : κ.lookup y = some c1 := h1
    rw [e] at e1
    cases e1
    exact ⟨o, some u, h2, h3⟩
  have kH := kF.up ok.1
  have cells : ∀ (i : Nat) (y : Str) (v : V), N[i]? = some y → ((vs.map (·.2)).map some)[i]? = some (some v) → ∃ (c : Addr) (o : Obj) (u : Value), κ.lookup y = some c ∧ H c = some (cellO c o) ∧ o.data = .cell (some u) ∧ RelV v u := fun i y v e1 e2 => by
    obtain ⟨v', hv⟩ := mem e1
    rw [List.getElem?_map, List.getElem?_map, hv] at e2
    cases e2
    obtain ⟨c, o, u, h1, h2, h3, h4⟩ := ev _ (List.mem_of_getElem? hv)
    exact ⟨c, o, u, h1, ok.1 _ _ h2, h3, h4⟩
  have kin : K.In s.heap := e0.mod.kin.keeps fun b o e => (e0.bs b o e).1
  have nol : s.heap.NoLimit := e0.mod.nolimit.keeps fun b o e => (e0.bs b o e).1
  refine codeAny_mono (?_ : codeAny (model P w) A (.call (.ref f) ⟨[], []⟩) (CR (L2.CX P w) outer P w (lessL H (cellsOf N κ)) s (fun v H' => (∀ c, c ∈ cellsOf N κ → H' c = none) → Q v (plusL H (cellsOf N κ) H')) (fun cls d H' => (∀ c, c ∈ cellsOf N κ → H' c = none) → E cls d (plusL H (cellsOf N κ) H'))) s) fun r' s' hc => CR.plus e0.hok kH e0.frf hc
  refine PySem.W.kla_callFunE hr.depth hf rfl n.co n.gen rfl ⟨c', oc, ws, t, rfl, hoc, hdc, hvc⟩ ?_
  -- the frame, the body
  have go : ∀ (binds : List (Str × Value)), (∀ y ∈ binds, L.scope.names.lookup y.1 = some .local) →
      wpAny (model P w) A.in1 (newFunctionEnv L.scope mainGlobals κ binds (L.qual ++ ".<locals>.") (some f) (.ref c') none builtinsNs)
        (fun env s₂ => s₂.heap.NoLimit ∧ codeAny (model P w) A (.expr L.body env) (CR (L2.CX P w) outer P w (lessL H (cellsOf N κ)) s (fun v H' => (∀ c, c ∈ cellsOf N κ → H' c = none) → Q v (plusL H (cellsOf N κ) H')) (fun cls d H' => (∀ c, c ∈ cellsOf N κ → H' c = none) → E cls d (plusL H (cellsOf N κ) H'))) s₂)
        (fun e s' => CR (L2.CX P w) outer P w (lessL H (cellsOf N κ)) s (fun v H' => (∀ c, c ∈ cellsOf N κ → H' c = none) → Q v (plusL H (cellsOf N κ) H')) (fun cls d H' => (∀ c, c ∈ cellsOf N κ → H' c = none) → E cls d (plusL H (cellsOf N κ) H')) (.error e) s') s := by
    intro binds hloc
    refine wpAny_newFunctionEnv n.cell hloc (fun h₁ hns hsb => ⟨nol.fresh _ hsb, ?_⟩) n.kind
    show codeAny _ _ (.expr L.body (lamEnv L κ s.heap.objs.size f c')) _ _
    have kp : ∀ b o, s.heap.get? b = some o → h₁.get? b = some o := fun b o e => hsb.extBut b o (Nat.ne_of_lt (Heap.lt_size e)) (Heap.get?_push_of_some _ e)
    have J := lam_inv (tk := s.toks + binds.length) (E := fun cls d H' => (∀ c, c ∈ cellsOf N κ → H' c = none) → E cls d (plusL H (cellsOf N κ) H')) (f := f) (c' := c') (σ := (vs.map (·.2)).map some) n kk e0 hr.hd kH (by rw [List.length_map, List.length_map]; exact lenv) cells hns kp
    have okL := ok.less e0.hok kF
    have xm : XM (lamC P w K mg base N L κ A outer s (lessL H (cellsOf N κ)) (fun cls d H' => (∀ c, c ∈ cellsOf N κ → H' c = none) → E cls d (plusL H (cellsOf N κ) H')) f c') b (lessL F (cellsOf N κ)) (lessL H (cellsOf N κ)) R :=
      ⟨⟨_, takes_of rfl rfl rfl rfl, fun y rx hR nn => hE _ _ _ _ _ (Ext.plus kF ok y nn) (RepX.plus y nn rx) hR⟩, passes_of rfl⟩
    obtain ⟨T', ⟨te, h1, h2⟩, h3⟩ := hbody _ κ A outer s _ _ f c' rfl (hr.deeper _) _ _ R xm
    have noL : ∀ {ds : List (Str × Dt)}, noExF ds = true → noExL (ds.map (·.2)) = true := fun {ds} => by
      induction ds with
      | nil => intro _; rfl
      | cons p ds ih =>
        intro h
        obtain ⟨n, d⟩ := p
        have p2 := (Bool.and_eq_true _ _).mp (show (noEx d && noExF ds) = true from h)
        show (noEx d && noExL (ds.map (·.2))) = true
        rw [p2.1, ih p2.2] <;> rfl
    have rL := repL_lessL kF hv2 (noL hx)
    have nv : Nv b (lessL F (cellsOf N κ)) (lessL F (cellsOf N κ)) (lessL H (cellsOf N κ)) (lessL F (cellsOf N κ)) (lessL H (cellsOf N κ)) ((vs.map (·.2)).map some) ((ds.map (·.2)).map .val) := by
      have z := start_nv (Fm := lessL F (cellsOf N κ)) (N := (vs.map (·.2)).map fun _ => Str.empty) okL rL
      have e1 : L2.start ((vs.map (·.2)).map fun _ => Str.empty) (vs.map (·.2)) = (vs.map (·.2)).map some := by
        unfold L2.start
        simp
      have e2 : startD ((vs.map (·.2)).map fun _ => Str.empty) (ds.map (·.2)) = (ds.map (·.2)).map .val := by
        unfold startD
        have := hv2.length
        rw [List.length_map, this]
        simp
      rw [e1, e2] at z
      exact z
    have hl : (ds.map (·.2)).length = N.length := by rw [← hn, List.length_map, List.length_map]
    have q1 := h2 _ nv (h3 _ Pq hl hT) (fun v H' => (∀ c, c ∈ cellsOf N κ → H' c = none) → Q v (plusL H (cellsOf N κ) H')) (fun v d F' H' y rv hp nn => hq v d _ _ (Ext.plus kF ok y nn) (rv.mono (sub_up y.sub nn)) hp)
    refine PySem.W.kla_codeExpr (wpAny_mono (h1.run [] _ _ _ _ J q1) (fun v s' hq' => ?_) fun e s' hq' => hq')
    obtain ⟨w', H', J', rv, q⟩ := hq'
    exact ⟨w', H', J'.os, J'.bare, J'.base, J'.hok, rv, q⟩
  unfold LamB at hB
  cases hdf : L.df with
  | false =>
    rw [hdf] at hB kd
    cases dT with
    | some T => cases kd
    | none =>
      show wpAny _ _ (bindArgs { name := "<lambda>", params := L.params, scope := L.scope, qualname := L.qual, body := .expr L.body, closure := κ, globals := mainGlobals, kwdefaults := .none, defaults := .none, pyModule := pm, doc := .none, annotations := none, closureTuple := ctv, code := .ref c', builtins := builtinsNs } ⟨[], []⟩) _ _ _
      rw [hB κ pm ctv c']
      exact wpAny_pure (go [] fun y hy => absurd hy List.not_mem_nil)
  | true =>
    rw [hdf] at hB kd
    cases dT with
    | none => cases kd
    | some T =>
      obtain ⟨p, hp, hB⟩ := hB
      obtain ⟨kf, hb1, hb2⟩ := hB κ pm ctv c' T
      obtain ⟨z, hz⟩ := et T rfl
      have oT : ObjOk P w H s.heap T (.tup [z]) := e0.hok T _ (ok.1 _ _ hz)
      obtain ⟨_, its, rz, ob, g1, g2, nn, g3⟩ := oT
      cases rz with
      | @cons _ u _ us ru rr =>
        cases rr
        show wpAny _ _ (bindArgs { name := "<lambda>", params := L.params, scope := L.scope, qualname := L.qual, body := .expr L.body, closure := κ, globals := mainGlobals, kwdefaults := .none, defaults := .ref T, pyModule := pm, doc := .none, annotations := none, closureTuple := ctv, code := .ref c', builtins := builtinsNs } ⟨[], []⟩) _ _ _
        rw [hb1]
        refine wpAny_bind (wpAny_seqItems g1 (by first | exact g3 | exact g2) ?_)
        rw [hb2 u]
        exact wpAny_pure (go [(p, u)] fun y hy => by rw [List.mem_singleton.mp hy]; exact hp)
end
end DL

namespace DL
open PySem PySem.Spec PyProof.Rows L2 PySem.Calls
/-! ### lambdas handed on: what their names hold goes with them -/
@[reducible] def close1 (g : Str → Dt) : Dt → Dt
  | .lam L _ => .clo L (L.fv.map fun y => (y, g y))
  | d => d
@[reducible] def closeD (g : Str → Dt) : Dt → Dt
  | .lam L _ => .clo L (L.fv.map fun y => (y, g y))
  | .lst xs => .lst (xs.map (close1 g))
  | d => d
def lamOk1 (X : Cx) (ns : List Str) : Dt → Prop
  | .lam L κ => κ = cloFrom X.env.cells L.scope.names [] ∧ ∀ y, y ∈ L.fv → y ∈ ns
  | _ => True
def lamOk (X : Cx) (ns : List Str) : Dt → Prop
  | .lam L κ => κ = cloFrom X.env.cells L.scope.names [] ∧ ∀ y, y ∈ L.fv → y ∈ ns
  | .lst xs => ∀ x, x ∈ xs → lamOk1 X ns x
  | _ => True
section
variable {b : Bg} {F H H' F' : Hp} {cs : List Addr}
theorem Ext.minus {Hc : Hp} (nF : ∀ c, c ∈ cs → F c = none) (nH : ∀ c, c ∈ cs → H c = none) (kc : Cells Hc cs) (y : Ext b (plusL Hc cs F) (plusL Hc cs H) F' H') (same : ∀ c, c ∈ cs → H' c = Hc c) (hno : ∀ c q, c ∈ cs → Hc c ≠ some (LamX.CodeO c q)) : Ext b F H (lessL F' cs) (lessL H' cs) := by
  have out : ∀ {a : Addr} {o : HO}, H a = some o → a ∉ cs := fun e z => by rw [nH _ z] at e; cases e
  have outF : ∀ {a : Addr} {o : HO}, F a = some o → a ∉ cs := fun e z => by rw [nF _ z] at e; cases e
  have kH : Cells H' cs := fun c z => by
    obtain ⟨o, u, e1, e2⟩ := kc c z
    exact ⟨o, u, by rw [same c z]; exact e1, e2⟩
  refine ⟨fun a o n h t => ?_, fun a o h => ?_, sub_less y.sub, fun a o h ne => ?_, ?_, fun a o h => y.nt a o (lessL_sub h).2, fun a ps h => ?_, fun p hp => ?_, fun a c r e h => ?_⟩
  · rw [lessL_out (out h)]
    exact y.keep a o n (by rw [plusL_out (out h)]; exact h) t
  · rw [lessL_out (outF h)]
    exact y.grow a o (by rw [plusL_out (outF h)]; exact h)
  · rw [lessL_out (out h), y.new a o (by rw [plusL_out (out h)]; exact h) ne, plusL_out (out h)]
  · have q := y.bag
    obtain ⟨bag, nm, tbs⟩ := b
    cases bag with
    | none => trivial
    | some a =>
      obtain ⟨b1, c, cs', i, v, m, z, hc, hb, q⟩ := q
      have oa : a ∉ cs := kH.out hb fun _ z => by cases z
      have oc : c ∉ cs := kH.out (y.sub _ _ hc) fun _ z => by cases z
      exact ⟨by rw [lessL_out oa]; exact b1, c, cs', i, v, m, z, by rw [lessL_out oc]; exact hc, by rw [lessL_out oa]; exact hb, q⟩
  · obtain ⟨qs, h2⟩ := y.tbl a ps (by rw [plusL_out (out h)]; exact h)
    exact ⟨qs, by rw [lessL_out (out h)]; exact h2⟩
  · obtain ⟨ps, h1, h2, h3⟩ := y.tabs p hp
    refine ⟨ps, by rw [lessL_out (kH.out h1 fun _ z => by cases z)]; exact h1, h2, fun pos cv hc => ?_⟩
    obtain ⟨c, e1, e2⟩ := h3 pos cv hc
    refine ⟨c, e1, ?_⟩
    rw [lessL_out fun z => ?_]
    · exact e2
    · rw [same c z] at e2
      exact hno c _ z e2
  · obtain ⟨c', r', h2, q⟩ := y.cell a c r e (by rw [plusL_out (out h)]; exact h)
    refine ⟨c', r', by rw [lessL_out (out h)]; exact h2, ?_⟩
    rcases q with q | q
    · exact .inl q
    · right
      by_cases z : c' ∈ cs
      · exact nH c' z
      · rw [plusL_out z] at q
        exact q
theorem Ok.plus {Hc : Hp} (ok : Ok b F H) (nF : ∀ c, c ∈ cs → F c = none) (nH : ∀ c, c ∈ cs → H c = none) (kc : Cells Hc cs) : Ok b (plusL Hc cs F) (plusL Hc cs H) := by
  obtain ⟨s, bg, nt, tb⟩ := ok
  have upH : ∀ a o, H a = some o → plusL Hc cs H a = some o := fun a o h => by
    rw [plusL_out fun z => by rw [nH _ z] at h; cases h]
    exact h
  refine ⟨fun a o h => ?_, ?_, fun a o h => ?_, fun p hp => (tb p hp).ext upH⟩
  · by_cases z : a ∈ cs
    · rw [plusL_in z] at h ⊢; exact h
    · rw [plusL_out z] at h ⊢; exact s a o h
  · obtain ⟨bag, nm, tbs⟩ := b
    cases bag with
    | none => trivial
    | some a =>
      obtain ⟨b0, c, cs', i, v, m, z, hc, hb, q⟩ := bg
      have oa : a ∉ cs := fun z => by rw [nH _ z] at hb; cases hb
      exact ⟨by rw [plusL_out oa]; exact b0, c, cs', i, v, m, z, by rw [plusL_out fun z => by rw [nF _ z] at hc; cases hc]; exact hc, upH _ _ hb, q⟩
  · by_cases z : a ∈ cs
    · rw [plusL_in z] at h
      obtain ⟨ob, u, e, _⟩ := kc a z
      rw [h] at e
      cases e
      exact fun _ z => by cases z
    · rw [plusL_out z] at h; exact nt a o h
end
section
variable {X : Cx} {b : Bg} {e : Expr} {es : List Expr} {pos p : Pos} {Ta : DAt}
/-- names whose slots hold ds -/
@[reducible] def capV (γ : Gm) : List (Str × Nat) → Str → Dt
  | [], _ => .non
  | (n, i) :: r, y => if y = n then (match gat γ i with | .val d => d | _ => .non) else capV γ r y
def capOk (γ : Gm) (cap : List (Str × Nat)) : Prop := ∀ q, q ∈ cap → ∃ d, gat γ q.2 = .val d
@[reducible] def dCallL (X : Cx) (cap : List (Str × Nat)) (T : DSp) (Ta : DAt) : DT := fun γ P => Ta γ fun ds => match ds with
  | [d] => capOk γ cap ∧ lamOk X (cap.map (·.1)) d ∧ T [closeD (capV γ cap) d] (fun z => noEx z = true ∧ P z)
  | _ => False
structure CapN (X : Cx) (cap : List (Str × Nat)) : Prop where
  at_ : ∀ q, q ∈ cap → X.N[q.2]? = some q.1
  cell : ∀ q, q ∈ cap → X.env.scope.names.lookup q.1 = some .cell
  own : ∀ q, q ∈ cap → X.fn q.1 = true
  nd : (cap.map (·.1)).Nodup
theorem capV_at {γ : Gm} : ∀ {cap : List (Str × Nat)}, (cap.map (·.1)).Nodup → ∀ {y : Str} {i : Nat} {d : Dt}, (y, i) ∈ cap → gat γ i = .val d → capV γ cap y = d
  | (n, j) :: r, nd, y, i, d, h, g => by
    show (if y = n then _ else _) = d
    rcases List.mem_cons.mp h with e | h'
    · cases e
      rw [if_pos rfl, g]
    · have hn : y ≠ n := fun e => (List.nodup_cons.mp nd).1 (List.mem_map.mpr ⟨_, h', e⟩)
      rw [if_neg hn]
      exact capV_at (List.nodup_cons.mp nd).2 h' g
end
end DL

namespace DL
open PySem PySem.Spec PyProof.Rows L2 PySem.Calls
theorem caps_rep {b : Bg} {F : Hp} {g : Str → Dt} {C : Str → V → Prop} : ∀ {l : List Str}, (∀ y, y ∈ l → ∃ v, Rep b F v (g y) ∧ C y v) → ∃ vs : List (Str × V), RepF b F vs (l.map fun y => (y, g y)) ∧ ∀ p, p ∈ vs → C p.1 p.2
  | [], _ => ⟨[], .nil, fun p hp => absurd hp List.not_mem_nil⟩
  | y :: l, h => by
    obtain ⟨v, h1, h2⟩ := h y List.mem_cons_self
    obtain ⟨vs, h3, h4⟩ := caps_rep fun z hz => h z (List.mem_cons_of_mem _ hz)
    refine ⟨(y, v) :: vs, .cons h1 h3, fun p hp => ?_⟩
    rcases List.mem_cons.mp hp with e | hp
    · rw [e]; exact h2
    · exact h4 p hp
theorem cellO_inj {c : Addr} {o o' : Obj} {h : Heap} (e : cellO c o = cellO c o') (g : h.get? c = some o) : h.get? c = some o' := by
  have z : (h.get? c = some o) = (h.get? c = some o') := congrArg (fun q : HO => match q with | .ext φ => φ h | _ => True) e
  rw [← z]
  exact g
theorem code_cell {c : Addr} {o : Obj} {q : Str} {u : Option Value} {h : Heap} (g : h.get? c = some o) (hd : o.data = .cell u) : cellO c o ≠ LamX.CodeO c q := fun e => by
  have z : (h.get? c = some o) = (∃ (oc : Obj) (vs : Array Value) (t : Tok), h.get? c = some oc ∧ oc.data = .fields vs ∧ vs[1]? = some (.str q t)) := congrArg (fun q : HO => match q with | .ext φ => φ h | _ => True) e
  have y : ∃ (oc : Obj) (vs : Array Value) (t : Tok), h.get? c = some oc ∧ oc.data = .fields vs ∧ vs[1]? = some (.str q t) := by rw [← z]; exact g
  obtain ⟨oc, vs, t, y1, y2, _⟩ := y
  rw [g] at y1
  cases y1
  rw [hd] at y2
  cases y2
section
variable {X : Cx} {b : Bg} {e : Expr} {es : List Expr} {pos p : Pos} {Ta : DAt}
theorem close_rep {F1 F2 : Hp} {ns : List Str} {g : Str → Dt} (s : Sub F1 F2) (cells : ∀ y, y ∈ ns → ∃ (v : V) (c : Addr) (o : Obj) (u : Value), Rep b F2 v (g y) ∧ X.env.cells.lookup y = some c ∧ F2 c = some (cellO c o) ∧ o.data = .cell (some u) ∧ RelV v u) :
    (∀ {d : Dt} {v : V}, Rep b F1 v d → lamOk1 X ns d → Rep b F2 v (close1 g d)) ∧ ∀ {d : Dt} {v : V}, Rep b F1 v d → lamOk X ns d → Rep b F2 v (closeD g d) := by
  have lamC : ∀ {L : Lam} {κ : List (Str × Addr)} {v : V}, Rep b F1 v (.lam L κ) → (κ = cloFrom X.env.cells L.scope.names [] ∧ ∀ y, y ∈ L.fv → y ∈ ns) → Rep b F2 v (.clo L (L.fv.map fun y => (y, g y))) := fun {L κ v} r ⟨hκ, hy⟩ => by
    cases r with
    | @lam f c' _ _ dT ef ec kk kd et =>
      obtain ⟨vs, h3, h4⟩ := caps_rep (b := b) (F := F2) (g := g) (C := fun y v => ∃ (c : Addr) (o : Obj) (u : Value), κ.lookup y = some c ∧ F2 c = some (cellO c o) ∧ o.data = .cell (some u) ∧ RelV v u) (l := L.fv) fun y hm => by
        obtain ⟨v, c, o, u, h1, h2, h3, h4, h5⟩ := cells y (hy y hm)
        refine ⟨v, h1, c, o, u, ?_, h3, h4, h5⟩
        obtain ⟨c0, hc⟩ := kk.has (y, .free) (PySem.mem_of_lookup (kk.nm.fr y hm)) rfl
        have hc : κ.lookup y = some c0 := hc
        have hm2 := PySem.mem_of_lookup hc
        rw [hκ] at hm2
        rcases cloFrom_mem hm2 with z | ⟨_, z⟩
        · cases z
        · have z : c0 = (X.env.cells.lookup y).getD 0 := z
          rw [h2] at z
          rw [hc, z] <;> rfl
      exact .clo (s _ _ ef) (s _ _ ec) kk kd (fun T q => (et T q).imp fun z hz => s _ _ hz) h4 h3
  have one : ∀ {d : Dt} {v : V}, Rep b F1 v d → lamOk1 X ns d → Rep b F2 v (close1 g d) := fun {d v} r h => by
    cases d with
    | lam L κ => exact lamC r h
    | _ => exact r.mono s
  refine ⟨one, fun {d v} r h => ?_⟩
  cases d with
  | lam L κ => exact lamC r h
  | lst xs =>
    cases r with
    | lst ea rl =>
      refine .lst (s _ _ ea) ?_
      have h' : ∀ x, x ∈ xs → lamOk1 X ns x := h
      clear ea h
      rename_i vs
      induction xs generalizing vs with
      | nil => cases rl; exact .nil
      | cons x xs ih =>
        cases rl with
        | cons r1 r2 => exact .cons (one r1 (h' x List.mem_cons_self)) (ih r2 fun z hz => h' z (List.mem_cons_of_mem _ hz))
  | _ => exact r.mono s
/-- f(e), with the lambdas in e -/
theorem x_callL {k : Nat} {f : Addr} {fd : FuncData} {ps : List Str} {x : Str} {T : DSp} {cap : List (Str × Nat)} (C : CapN X cap) (hs : X.stack = X.env :: X.outer) (hf : X.env.frame = some X.env.locals) (F : FnOk X.prog X.w X.K X.mg X.base CX0 k f fd ps (spD b 1 T)) (hr : Room k X.A) (hg : Gl X x) (hm : X.mg x = some (.ref f)) (hk : PySem.W.keepIn X.K (.ref f) = true) (hb : Binds X.K fd ps [])
    (ha : XA X b [e] Ta) (hdb : (x == ("__debug__" : Str)) = false := by decide) (he : starEach [e] X.env = (false, eval e X.env) :: starEach [] X.env := by rfl) (hpl : (backTo pos (starEach [] X.env)).any (·.1) = false := by rfl) : XE X b (.Call (.Name x p) [e] [] pos) (dCallL X cap T Ta) := by
  obtain ⟨ta, h1, h2⟩ := ha
  have rule : PE X (.Call (.Name x p) [e] [] pos) (fun σ H Q => ta σ H fun vs H1 => ∃ (F1 Fm F0 H0 : Hp) (v : V) (d : Dt) (γ : Gm) (Pq : Dt → Prop), vs = [v] ∧ Nv b Fm F0 H0 F1 H1 σ γ ∧ Rep b F1 v d ∧ capOk γ cap ∧ lamOk X (cap.map (·.1)) d ∧ T [closeD (capV γ cap) d] (fun z => noEx z = true ∧ Pq z) ∧
      ∀ v d F' H', Ext b F1 H1 F' H' → Rep b F' v d → Pq d → Q v H') := by
    refine ⟨fun pins s σ H Q I h => ?_⟩
    refine wpAny_Call_Name_kw (ld_glob I hg hm ?_ hdb)
    refine PySem.W.callWith_K (h₀ := X.base) I.ok.mod.kin hk (thn (h1.run pos pins s σ H _ I h) fun us s1 ⟨vs, H1, I1, r, q⟩ => ⟨I1.kIn, ?_⟩) he hpl
    obtain ⟨F1, Fm, F0, H0, v, d, γ, Pq, ev, n, rv, hc, hl, hT, hQ⟩ := q
    subst ev
    cases r with
    | @cons _ u _ us ru rr =>
    cases rr
    let cs : List Addr := (cap.map (·.1)).filterMap fun y => X.env.cells.lookup y
    let Hc : Hp := fun a => (s1.heap.get? a).map (cellO a)
    obtain ⟨m, hns, hloc⟩ := I1.loc
    have cellAt : ∀ y i, (y, i) ∈ cap → ∃ (v : V) (c : Addr) (o : Obj) (u : Value) (dd : Dt), X.env.cells.lookup y = some c ∧ s1.heap.get? c = some o ∧ o.data = .cell (some u) ∧ RelV v u ∧ gat γ i = .val dd ∧ Rep b F1 v dd := fun y i hy => by
      obtain ⟨dd, hd⟩ := hc _ hy
      have sl := n.slot i
      rw [hd] at sl
      obtain ⟨v, h3, h4⟩ := sl
      obtain ⟨u, h5, h6⟩ := hloc i y v (C.at_ _ hy) h3 (.inr (.inl (C.cell _ hy)))
      rcases h6 with ⟨k1, _⟩ | ⟨_, c, h7, o, h8, h9⟩
      · have k1 : X.env.scope.names.lookup y = some .local := k1
        rw [C.cell _ hy] at k1
        cases k1
      · exact ⟨v, c, o, u, dd, h7, h8, h9, h5, hd, h4⟩
    have inCs : ∀ c, c ∈ cs → ∃ y i, (y, i) ∈ cap ∧ X.env.cells.lookup y = some c := fun c hcs => by
      obtain ⟨y, hy, e1⟩ := List.mem_filterMap.mp hcs
      obtain ⟨q, hq, e2⟩ := List.mem_map.mp hy
      obtain ⟨y', i⟩ := q
      cases e2
      exact ⟨y', i, hq, e1⟩
    have objAt : ∀ c, c ∈ cs → ∃ (o : Obj) (u : Value), s1.heap.get? c = some o ∧ o.data = .cell (some u) := fun c hcs => by
      obtain ⟨y, i, hy, e1⟩ := inCs c hcs
      obtain ⟨v, c', o, u, dd, h3, h4, h5, _⟩ := cellAt y i hy
      rw [e1] at h3
      cases h3
      exact ⟨o, u, h4, h5⟩
    have hcAt : ∀ {c o}, s1.heap.get? c = some o → Hc c = some (cellO c o) := fun {c o} z => by
      show (s1.heap.get? c).map (cellO c) = _
      rw [z] <;> rfl
    have kc : Cells Hc cs := fun c hcs => by
      obtain ⟨o, u, h3, h4⟩ := objAt c hcs
      exact ⟨o, some u, hcAt h3, h4⟩
    have nH : ∀ c, c ∈ cs → H1 c = none := fun c hcs => by
      obtain ⟨y, i, hy, e1⟩ := inCs c hcs
      exact I1.freeC y c e1
    have nF : ∀ c, c ∈ cs → F1 c = none := fun c hcs => by
      cases q : F1 c with
      | none => rfl
      | some o =>
        have z := n.ok.1 c o q
        rw [nH c hcs] at z
        cases z
    have big : ∀ c, c ∈ cs → X.s_0.heap.objs.size ≤ c := fun c hcs => by
      obtain ⟨y, i, hy, e1⟩ := inCs c hcs
      exact I1.ok.cab y c (C.own _ hy) e1
    have okP := Ok.plus n.ok nF nH kc
    have hokP : HOk X.prog X.w (plusL Hc cs H1) s1.heap := hok_plus I1.hok kc (fun c o hcs z => by
      obtain ⟨o', u', h3, _⟩ := objAt c hcs
      rw [hcAt h3] at z
      exact cellO_inj (Option.some.inj z) h3) nH
    have e1 := I1.env0
    have offP : ∀ {b : Addr}, b < X.s_0.heap.objs.size → H1 b = none → plusL Hc cs H1 b = none := fun {b} z h3 => by
      rw [plusL_out fun hcs => Nat.lt_irrefl _ (Nat.lt_of_lt_of_le z (big b hcs))]
      exact h3
    have env0 : Env0 X.prog X.w X.K X.mg X.base X.A X.stack s1 (plusL Hc cs H1) := by
      refine ⟨e1.frames, e1.mod, fun b o z => ⟨(e1.bs b o z).1, offP (Nat.lt_of_lt_of_le (Heap.lt_size z) I1.ok.bsz) (e1.bs b o z).2⟩, e1.bsz, e1.funs, fun b hb => ?_, hokP, e1.bare⟩
      have h3 := e1.frf b hb
      rw [hs] at hb
      rcases List.mem_filterMap.mp hb with ⟨ev, hev, hfr⟩
      rcases List.mem_cons.mp hev with z | z
      · subst z
        rw [hf] at hfr
        cases hfr
        rw [plusL_out fun hcs => ?_]
        · exact h3
        · obtain ⟨o, u', h4, h5⟩ := objAt _ hcs
          obtain ⟨o', es, ep, h6, h7, _⟩ := hns
          rw [h4] at h6
          cases h6
          rw [h5] at h7
          cases h7
      · obtain ⟨_, o, ho, _⟩ := I1.ok.funs.mem (List.mem_filterMap.mpr ⟨ev, z, hfr⟩)
        exact offP (Heap.lt_size ho) h3
    have subP : Sub F1 (plusL Hc cs F1) := fun a o z => by
      rw [plusL_out fun hcs => by rw [nF a hcs] at z; cases z]
      exact z
    have rd := (close_rep (X := X) (b := b) (F1 := F1) (F2 := plusL Hc cs F1) (ns := cap.map (·.1)) (g := capV γ cap) subP fun y hy => by
      obtain ⟨q, hq, e2⟩ := List.mem_map.mp hy
      obtain ⟨y', i⟩ := q
      cases e2
      obtain ⟨v, c, o, u, dd, h3, h4, h5, h6, h7, h8⟩ := cellAt _ i hq
      have hcs : c ∈ cs := List.mem_filterMap.mpr ⟨_, hy, h3⟩
      exact ⟨v, c, o, u, by rw [capV_at C.nd hq h7]; exact h8.mono subP, h3, by rw [plusL_in hcs]; exact hcAt h4, h5, h6⟩).2 rv hl
    have sp : spD b 1 T [v] (plusL Hc cs H1) (fun v2 H2 => (∀ c, c ∈ cs → H2 c = Hc c) ∧ Q v2 (lessL H2 cs)) E0 := by
      refine ⟨plusL Hc cs F1, [closeD (capV γ cap) d], _, okP, .cons rd .nil, rfl, hT, fun v2 d2 F' H' y r2 p2 => ?_⟩
      have same : ∀ c, c ∈ cs → H' c = Hc c := fun c hcs => by
        obtain ⟨o, u', h3, _⟩ := kc c hcs
        rw [h3]
        exact y.sub _ _ (y.grow _ _ (by rw [plusL_in hcs]; exact h3))
      have kF : Cells F' cs := fun c hcs => by
        obtain ⟨o, u', h3, h4⟩ := kc c hcs
        exact ⟨o, u', y.grow _ _ (by rw [plusL_in hcs]; exact h3), h4⟩
      exact ⟨same, hQ v2 d2 _ _ (Ext.minus nF nH kc y same fun c q hcs z => by
        obtain ⟨o, u', h3, h4⟩ := objAt c hcs
        rw [hcAt h3] at z
        exact code_cell h3 h4 (Option.some.inj z)) (rep_lessL kF r2 p2.1) p2.2⟩
    have hlen : ([u] ++ []).length = ps.length := (F.len _ _ _ _ sp).symm ▸ rfl
    refine wpAny_call (codeAny_mono (F.run X.A X.stack s1 _ ⟨[u], []⟩ ([u] ++ []) [v] _ E0 hr env0 (hb s1 [u] I1.kIn hlen) (.cons ru .nil) sp) fun r' s' back => ?_)
    have k2 : Cells (plusL Hc cs H1) cs := fun c hcs => by
      obtain ⟨o, u', h3, h4⟩ := kc c hcs
      exact ⟨o, u', by rw [plusL_in hcs]; exact h3, h4⟩
    have back2 := CR.minus (E := E0) k2 nH hokP (fun e z => z) back
    cases r' with
    | error er => exact pass0 pins σ H1 s1 er s' I1 back2
    | ok fl =>
      cases fl with
      | ret u => exact I1.after back2
      | next => exact False.elim back2
      | brk => exact False.elim back2
      | cont => exact False.elim back2
  refine ⟨_, rule, fun {Fm F0 H0 F H σ γ} P n t Q q => h2 _ n t _ fun vs ds F1 H1 x1 r1 t1 => ?_⟩
  match ds, r1, t1 with
  | [d], .cons rd .nil, t1 =>
    exact ⟨F1, Fm, F0, H0, _, d, γ, P, rfl, n.to x1, rd, t1.1, t1.2.1, t1.2.2, fun v d F' H' y r p => q v d F' H' (x1.trans y) r p⟩
end
end DL

namespace DL
open PySem PySem.Spec PyProof.Rows L2 PySem.Calls
/-- what a lambda does that is called, its names holding ds -/
def CloBeh (P : Program) (w : World) (K : PySem.W.Frag) (mg : Str → Option Value) (base : Heap) (b : Bg) (k : Nat) (L : Lam) (ds : List (Str × Dt)) (Pq : Dt → Prop) (R : Xd → Prop) : Prop := ∃ T P0 R0, CloOk P w K mg base b k L T ∧ T ds P0 R0 ∧ (∀ d, P0 d → Pq d) ∧ ∀ x, R0 x → R x
theorem CloBeh.mono {P : Program} {w : World} {K : PySem.W.Frag} {mg : Str → Option Value} {base : Heap} {b : Bg} {k : Nat} {L : Lam} {ds : List (Str × Dt)} {P1 P2 : Dt → Prop} {R1 R2 : Xd → Prop} (c : CloBeh P w K mg base b k L ds P1 R1) (h1 : ∀ d, P1 d → P2 d) (h2 : ∀ x, R1 x → R2 x) : CloBeh P w K mg base b k L ds P2 R2 := by
  obtain ⟨T, P0, R0, c, t, q1, q2⟩ := c
  exact ⟨T, P0, R0, c, t, fun d h => h1 d (q1 d h), fun x h => h2 x (q2 x h)⟩
theorem CloBeh.of {P : Program} {w : World} {K : PySem.W.Frag} {mg : Str → Option Value} {base : Heap} {b : Bg} {k : Nat} {L : Lam} {ds : List (Str × Dt)} {Pq : Dt → Prop} {R : Xd → Prop} {T} (c : CloOk P w K mg base b k L T) (t : T ds Pq R) : CloBeh P w K mg base b k L ds Pq R := ⟨T, Pq, R, c, t, fun _ h => h, fun _ h => h⟩
theorem CloOk.mono {P : Program} {w : World} {K : PySem.W.Frag} {mg : Str → Option Value} {base : Heap} {b : Bg} {j k : Nat} {L : Lam} {T} (c : CloOk P w K mg base b j L T) (h : j ≤ k) : CloOk P w K mg base b k L T := ⟨fun A outer s H F f ds Pq R Q E hr => c.run A outer s H F f ds Pq R Q E (hr.mono h)⟩
section
variable {X : Cx} {b : Bg} {F0 H0 : Hp} {R : Xd → Prop} {p1 p2 : Pos}
@[reducible] def dDeed (Q : Program) (w : World) (K : PySem.W.Frag) (mg : Str → Option Value) (base : Heap) (b : Bg) (k i : Nat) (R : Xd → Prop) : DT := fun γ P => match gat γ i with
  | .val (.clo L ds) => CloBeh Q w K mg base b k L ds P R
  | _ => False
/-- f(), f a lambda that was handed in -/
theorem x_deed {a : Str} {i k : Nat} (M : XM X b F0 H0 R) (hr : Room k X.A) (hN : X.N[i]? = some a) (hv : Vis X.env.scope a) (hd : (a == ("__debug__" : Str)) = false := by decide) (hcd : (a == ("__classdict__" : Str)) = false := by decide) :
    XEx X b F0 H0 (.Call (.Name a p1) [] [] p2) (dDeed X.prog X.w X.K X.mg X.base b k i R) := by
  obtain ⟨E, tk, hE⟩ := M.ex
  have rule : PE X (.Call (.Name a p1) [] [] p2) (fun σ H Q => ∃ (f : Addr) (L : Lam) (ds : List (Str × Dt)) (F1 : Hp) (Pq : Dt → Prop), σ[i]? = some (some (.ref f)) ∧ Ok b F1 H ∧ Rep b F1 (.ref f) (.clo L ds) ∧ CloBeh X.prog X.w X.K X.mg X.base b k L ds Pq R ∧
      (∀ v d F' H', Ext b F1 H F' H' → Rep b F' v d → Pq d → Q v H') ∧ ∀ cls d x F' H', Ext b F1 H F' H' → RepX b F' H H' cls d x → R x → E cls d H') := by
    refine ⟨fun pins s σ H Q I h => ?_⟩
    obtain ⟨f, L, ds, F1, Pq, hs, ok, r, ⟨T, P0, R0, c, hT, w1, w2⟩, hQ, hX⟩ := h
    refine wpAny_Call_Name_kw (thn ((pe_var (pos := p1) hN hv hd hcd).run pins s σ H (fun v H1 => v = .ref f ∧ H1 = H) I ⟨.ref f, hs, rfl, rfl⟩) fun u s1 ⟨v, H1, I1, r1, q1⟩ => ?_)
    obtain ⟨ev, eH⟩ := q1
    subst ev
    rw [eH] at I1
    obtain rfl : u = Value.ref f := r1
    have hfn : ∃ pm ctv κ dT c', s1.heap.get? f = some { data := .func { params := L.params, name := "<lambda>", scope := L.scope, qualname := L.qual, body := .expr L.body, closure := κ, globals := mainGlobals, kwdefaults := .none, defaults := dfV dT, pyModule := pm, doc := .none, annotations := none, closureTuple := ctv, code := .ref c', builtins := builtinsNs }, cls := .type "function" } := by
      cases r with
      | @clo _ c' _ κ dT vs _ ef ec kk kd et ev rf =>
        have of_ : ObjOk X.prog X.w H s1.heap f (lamO f L κ dT c') := I1.hok f _ (ok.1 _ _ ef)
        obtain ⟨⟨pm, ctv, hf⟩, _⟩ := of_
        exact ⟨_, _, _, _, _, hf⟩
    obtain ⟨pm, ctv, κ, dT, c', hf⟩ := hfn
    refine PySem.W.callWith_F0 (first := []) ⟨_, _, _, _, hf⟩ ?_
    refine wpAny_call (codeAny_mono (c.run X.A X.stack s1 H F1 f ds P0 R0 Q E hr I1.env0 ok r hT (fun v d F' H' x r p => hQ v d F' H' x r (w1 d p)) fun cls d x F' H' y r p => hX cls d x F' H' y r (w2 x p)) fun r' s' back => ?_)
    cases r' with
    | error er => exact passes_call tk (fun _ _ _ _ z => z) pins σ H s1 er s' I1 back
    | ok fl =>
      cases fl with
      | ret u => exact I1.after back
      | next => exact False.elim back
      | brk => exact False.elim back
      | cont => exact False.elim back
  refine ⟨_, rule, fun {Fm F H σ γ} P n t Q q => ?_⟩
  have sl := n.slot i
  revert t
  show (match gat γ i with | .val (.clo L ds) => CloBeh X.prog X.w X.K X.mg X.base b k L ds P R | _ => False) → _
  cases e : gat γ i with
  | val d =>
    rw [e] at sl
    obtain ⟨v, h1, h2⟩ := sl
    cases d with
    | clo L ds =>
      intro t
      cases h2 with
      | clo a1 a2 a3 a4 a5 a6 a7 =>
        exact ⟨_, L, ds, F, P, h1, n.ok, .clo a1 a2 a3 a4 a5 a6 a7, t, q, fun cls d x F' H' y r hR => hE (n.ext.trans y) (RepX.up n r) hR⟩
    | _ => intro t; exact t.elim
  | _ => intro t; exact t.elim
end
end DL

namespace DL
open PySem PySem.Spec PyProof.Rows L2 PySem.Calls
/-- no slot has a thing of its own -/
@[reducible] def calmG : Gm → Bool
  | [] => true
  | .un :: r => calmG r
  | .val _ :: r => calmG r
  | _ :: _ => false
theorem calmG_at : ∀ {γ : Gm}, calmG γ = true → ∀ i, (gat γ i).adr = none
  | [], _, _ => rfl
  | .un :: r, h, 0 => rfl
  | .un :: r, h, i + 1 => calmG_at (γ := r) h i
  | .val _ :: r, h, 0 => rfl
  | .val _ :: r, h, i + 1 => calmG_at (γ := r) h i
theorem calmG_sl : ∀ {γ : Gm}, calmG γ = true → ∀ i, gat γ i = .un ∨ ∃ d, gat γ i = .val d
  | [], _, _ => .inl rfl
  | .un :: r, h, 0 => .inl rfl
  | .un :: r, h, i + 1 => calmG_sl (γ := r) h i
  | .val d :: r, h, 0 => .inr ⟨d, rfl⟩
  | .val _ :: r, h, i + 1 => calmG_sl (γ := r) h i
section
variable {b : Bg} {Fm F0 H0 F H F' H' : Hp} {σ σ' : L2.St} {γ γ' : Gm}
/-- the same slots, told from here on -/
theorem Nv.here (n : Nv b Fm F0 H0 F H σ γ) (c : calmG γ = true) : Nv b F F H F H σ γ :=
  ⟨n.ok, Sub.refl F, Ext.refl n.ok, n.len, fun i => by
    have z := n.slot i
    rcases calmG_sl c i with e | ⟨d, e⟩
    · rw [e]; exact True.intro
    · rw [e] at z ⊢; exact z, n.dis⟩
theorem SlOk.back0 (x : Ext b F0 H0 F H) (k : Ok b F0 H0) {w : Option (Option V)} : ∀ {s : Sl}, SlOk b H F' H' w s → SlOk b H0 F' H' w s
  | .un, _ => True.intro
  | .val d, h => h
  | .own l xs, h => by
    obtain ⟨vs, h1, h2, h3, h4, h5, h6⟩ := h
    exact ⟨vs, h1, h2, h3, h4, x.back k h5, h6⟩
  | .obj l d, h => by
    obtain ⟨u, h1, h2, h3, h4, h5, h6⟩ := h
    exact ⟨u, h1, h2, h3, h4, x.back k h5, h6⟩
  | .hid l xs, h => by
    obtain ⟨vs, h2, h3, h4, h5, h6⟩ := h
    exact ⟨vs, h2, h3, h4, x.back k h5, h6⟩
theorem Nv.there0 (n : Nv b Fm F0 H0 F H σ γ) (m : Nv b F F H F' H' σ' γ') : Nv b Fm F0 H0 F' H' σ' γ' :=
  ⟨n.ok0, n.fm.trans m.fm, n.ext.trans m.ext, m.len, fun i => (m.slot i).back0 n.ext n.ok0, m.dis⟩
/-- nothing is known of the slots -/
theorem Nv.blank (k : Ok b F0 H0) (fm : Sub Fm F') (x : Ext b F0 H0 F' H') : Nv b Fm F0 H0 F' H' σ (List.replicate σ.length .un) := by
  have un : ∀ (m i : Nat), gat (List.replicate m .un) i = .un := fun m => by
    induction m with
    | zero => intro i; rfl
    | succ m ih =>
      intro i
      cases i with
      | zero => rfl
      | succ i => exact ih i
  refine ⟨k, fm, x, by rw [List.length_replicate], fun i => ?_, fun i j a hi _ => ?_⟩
  · rw [un]; exact True.intro
  · rw [un] at hi; cases hi
end
section
variable {X : Cx} {b : Bg} {n x1 x2 x3 : Str} {c1 c2 c3 : Addr} {i kk : Nat} {body suite : List Stmt} {b₀ : Stmt} {p1 p2 p3 pt pos pos' : Pos} {Tb : (Xd → Prop) → DSt} {Ts : DSt}
/-- what the suite is begun with -/
@[reducible] def sTry (K : PySem.W.Frag) (cs : List Value) (i m : Nat) (Tb : (Xd → Prop) → DSt) (Ts : DSt) : DSt := fun E γ => calmG γ = true ∧ γ.length = m ∧
  Tb (fun x => PySem.W.exmAny K (.ref x.1) cs = some true ∧ Ts { nx := fun γ' => E.nx (gset γ' i .un), rt := E.rt, bk := fun γ' => E.bk (gset γ' i .un), ct := fun γ' => E.ct (gset γ' i .un) } (gset (List.replicate m .un) i (.val (.exc x.1 x.2)))) E γ
/-- try: body / except (x1, x2, x3) as n: suite -/
theorem s_try3 (hs : X.stack = X.env :: X.outer) (hf : X.env.frame = some X.env.locals) (hex : X.ex = []) (hN : X.N.Nodup) (hi : X.N[i]? = some n) (hln : X.env.kindOf n = some .local)
    (g1 : Gl X x1) (m1 : X.mg x1 = some (.ref c1)) (g2 : Gl X x2) (m2 : X.mg x2 = some (.ref c2)) (g3 : Gl X x3) (m3 : X.mg x3 = some (.ref c3))
    (d1 : (x1 == ("__debug__" : Str)) = false) (d2 : (x2 == ("__debug__" : Str)) = false) (d3 : (x3 == ("__debug__" : Str)) = false)
    (hb : ∀ (pn : List (Addr × Obj)) (xe : Value → Shared → Prop) (F0 H0 : Hp) (R : Xd → Prop), XM (X.tr pn xe) b F0 H0 R → XSSx (X.tr pn xe) b F0 H0 body (Tb R))
    (hsu : ∀ (a : Addr) (pn : List (Addr × Obj)), XSs (X.suite a pn) b (b₀ :: suite) Ts) :
    XS X b (.Try body [.ExceptHandler (some (.Tuple [.Name x1 p1, .Name x2 p2, .Name x3 p3] kk pt)) (some n) (b₀ :: suite) pos'] [] [] pos) (sTry X.K [.ref c1, .ref c2, .ref c3] i X.N.length Tb Ts) := by
  let tb : WX → TS := fun W D σ H => ∃ (F0 H0 : Hp) (R : Xd → Prop), (∀ (F H' : Hp) (cls : Value) (d : Option Addr) (x : Xd), Ext b F0 H0 F H' → RepX b F H0 H' cls d x → R x → ∀ σ', W cls d σ' H') ∧
    ∀ (pn : List (Addr × Obj)) (xe : Value → Shared → Prop) (M : XM (X.tr pn xe) b F0 H0 R), (hb pn xe F0 H0 R M).ex.choose D σ H
  let ts : Addr → TS := fun a D σ H => ∀ pn : List (Addr × Obj), (hsu a pn).ex.choose D σ H
  refine ⟨_, ps_try3 (tb := tb) (ts := ts) hs hf hex hN hi hln g1 m1 g2 m2 g3 m3 d1 d2 d3 (fun W pn xe tk po => ?_) (fun a pn => ?_), fun {Fm F0 H0 F H σ γ} E nv t D k => ?_⟩
  · refine ⟨fun pins s σ H D I ⟨F0, H0, R, h1, h2⟩ => ?_⟩
    have M : XM (X.tr pn xe) b F0 H0 R := ⟨⟨fun cls d H => ∀ σ', W cls d σ' H, tk.imp fun _ _ σ _ w => w σ, fun {F H cls d x} y r hR => h1 F H cls d x y r hR⟩, po⟩
    exact (hb pn xe F0 H0 R M).ex.choose_spec.1.run pins s σ H D I (h2 pn xe M)
  · refine ⟨fun pins s σ H D I h => ?_⟩
    exact (hsu a pn).ex.choose_spec.1.run pins s σ H D I (h pn)
  · obtain ⟨cg, hg, t⟩ := t
    refine ⟨F, H, _, fun F1 H1 cls d x y r hR => ?_, fun pn xe M => (hb pn xe F H _ M).ex.choose_spec.2 (Fm := F) E (nv.here cg) t D ⟨fun n' z => k.nx (nv.there0 n') z, fun n' r' z => k.rt (nv.there0 n') r' z, fun n' z => k.bk (nv.there0 n') z, fun n' z => k.ct (nv.there0 n') z⟩⟩
    intro σ'
    obtain ⟨ec, dx, vs, ed, h1, h2, h3, h4⟩ := r
    obtain ⟨hm, hT⟩ := hR
    refine ⟨x.1, dx, vs, ec, ed, h1, by rw [ec]; exact hm, fun a σ2 ha hσ => ?_⟩
    intro pn
    have e1 : Ext b F H (upd F1 dx (.xd vs)) H1 := y.take h2 (nv.ok.nb h2) h1
    have e2 : Ext b (upd F1 dx (.xd vs)) H1 (upd (upd F1 dx (.xd vs)) a (exV a x.1 dx)) (upd H1 a (exV a x.1 dx)) := Ext.push e1.ok ha
    have e3 := e1.trans e2
    have hda : dx ≠ a := fun z => by rw [z, ha] at h1; cases h1
    have g4 : Sub F1 (upd (upd F1 dx (.xd vs)) a (exV a x.1 dx)) := fun c o z => by
      rw [upd_ne, upd_ne]
      · exact z
      · intro e; rw [e, h3] at z; cases z
      · intro e
        have q := y.sub _ _ z
        rw [e, ha] at q
        cases q
    have rx : Rep b (upd (upd F1 dx (.xd vs)) a (exV a x.1 dx)) (.ref a) (.exc x.1 x.2) := .exc upd_same (by rw [upd_ne hda, upd_same]) (h4.mono g4)
    have n2 : Nv b F F H (upd (upd F1 dx (.xd vs)) a (exV a x.1 dx)) (upd H1 a (exV a x.1 dx)) (σ2.set i (some (.ref a))) (gset (List.replicate σ2.length .un) i (.val (.exc x.1 x.2))) :=
      (Nv.blank nv.ok e3.grow e3).set i rx
    have n3 := nv.there0 n2
    rw [hσ] at n3
    refine (hsu a pn).ex.choose_spec.2 _ n3 hT _ ⟨fun {F' H' σ3 γ3} n' z => k.nx (n'.forget (by rw [List.length_set]) (gset_len _ _ _) fun j => ?_) z, fun n' r' z => k.rt n' r' z, fun {F' H' σ3 γ3} n' z => k.bk (n'.forget (by rw [List.length_set]) (gset_len _ _ _) fun j => ?_) z, fun {F' H' σ3 γ3} n' z => k.ct (n'.forget (by rw [List.length_set]) (gset_len _ _ _) fun j => ?_) z⟩
    all_goals
      by_cases e : j = i
      · left
        subst e
        rcases gat_set γ3 (i := j) .un with q | ⟨q, _⟩ <;> exact q
      · exact .inr ⟨gat_set_ne _ _ e, List.getElem?_set_ne (Ne.symm e)⟩
end
end DL

namespace DL
open PySem PySem.Spec PyProof.Rows L2 PySem.Calls
section
variable {X : Cx} {b : Bg} {F0 H0 : Hp} {e : Expr} {es : List Expr} {pos : Pos} {Ta : DT} {Tr : DAt}
def DAx (b : Bg) (F0 H0 : Hp) (ta : TA) (T : DAt) : Prop := ∀ {Fm F H : Hp} {σ : L2.St} {γ : Gm} (P : List Dt → Prop), Nv b Fm F0 H0 F H σ γ → T γ P → ∀ Q : List V → Hp → Prop, (∀ vs ds F' H', Ext b F H F' H' → RepL b F' vs ds → P ds → Q vs H') → ta σ H Q
structure XAx (X : Cx) (b : Bg) (F0 H0 : Hp) (es : List Expr) (T : DAt) : Prop where
  ex : ∃ te, PA X es te ∧ DAx b F0 H0 te T
theorem XA.x (h : XA X b es Tr) : XAx X b F0 H0 es Tr := by
  obtain ⟨te, h1, h2⟩ := h
  exact ⟨te, h1, fun P n t Q q => h2 P n t Q q⟩
theorem ax_cons (ha : XEx X b F0 H0 e Ta) (hr : XAx X b F0 H0 es Tr) (hs : starEach (e :: es) X.env = (false, eval e X.env) :: starEach es X.env := by rfl) : XAx X b F0 H0 (e :: es) (aCons Ta Tr) := by
  obtain ⟨_, h1, h2⟩ := ha; obtain ⟨_, g1, g2⟩ := hr
  refine ⟨_, pa_cons h1 g1 hs, fun P n t Q q => ?_⟩
  refine h2 _ n t _ fun v d F1 H1 x1 r1 t1 => ?_
  refine g2 _ (n.to x1) t1 _ fun vs ds F2 H2 x2 r2 t2 => ?_
  exact q _ _ F2 H2 (x1.trans x2) (.cons (x2.mono r1) r2) t2
theorem x_tupX {x1} (h : XAx X b F0 H0 es Tr) : XEx X b F0 H0 (.Tuple es x1 pos) (dTup Tr) := by
  obtain ⟨_, h1, h2⟩ := h
  refine ⟨_, pe_tup h1, fun P n t Q q => h2 _ n t _ fun vs ds F1 H1 x1 r1 t1 => ⟨Nat.le_trans (by rw [r1.length]; exact t1.1) (by decide), fun p hp => ?_⟩⟩
  exact q _ _ (upd F1 p (.tup vs)) _ (x1.trans (Ext.push x1.ok hp)) (.tup upd_same (r1.mono (Ext.push x1.ok hp).grow)) t1.2
/-- x.extend(e), e a list, x a list of one's own -/
@[reducible] def sExt (i : Nat) (Ta : DT) : DSt := fun E γ => match gat γ i with | .own l xs => (Ta γ fun d => match d with | .lst ys => xs.length + ys.length ≤ 100000 ∧ E.nx (gset γ i (.own l (xs ++ ys))) | _ => False) | _ => False
theorem s_ext (i : Nat) {x : Str} {apos p1 p2 : Pos} (ha : XE X b e Ta) (hN : X.N[i]? = some x := by rfl) (hv : Vis X.env.scope x := by first | exact Or.inl rfl | exact Or.inr (Or.inl rfl) | exact Or.inr (Or.inr rfl)) (hd : (x == ("__debug__" : Str)) = false := by decide)
    (hcd : (x == ("__classdict__" : Str)) = false := by decide) (he : starEach [e] X.env = (false, eval e X.env) :: starEach [] X.env := by rfl)
    (hpe : ∀ {te : TE} {t : TA}, PE X (.Name x p1) te → PA X [e] t → PE X (.Call (.Attribute (.Name x p1) "extend" apos) [e] [] p2) (tBM X.K "list" rExtend te t) := by exact fun h g => pe_bm PySem.F.plainAttrs_list PySem.F.slot_list_extend PySem.F.type_list_extend mt_extend h g)
    (hs : swapsWith (.Call (.Attribute (.Name x p1) "extend" apos) [e] [] p2) none pos.line X.env = pure false := by rfl) : XS X b (.Expr (.Call (.Attribute (.Name x p1) "extend" apos) [e] [] p2) pos) (sExt i Ta) := by
  obtain ⟨_, h1, h2⟩ := ha
  refine ⟨_, ps_expr (hpe (pe_var hN hv hd hcd) (pa_cons h1 pa_nil he)) hs, fun {Fm F0 H0 F H σ γ} E n t D k => ?_⟩
  unfold sExt at t
  have hi := n.slot i
  cases e : gat γ i with
  | un => rw [e] at t; exact t.elim
  | val d => rw [e] at t; exact t.elim
  | obj l d => rw [e] at t; exact t.elim
  | hid l d => rw [e] at t; exact t.elim
  | own l xs =>
    rw [e] at hi t
    obtain ⟨vs, a1, a2, a3, a4, a5, a6⟩ := hi
    refine ⟨_, a1, Or.inl ⟨rfl, vs, SqL.of a2⟩, h2 _ n t _ fun v d F' H' x r p => ?_⟩
    cases r <;> first | exact p.elim | skip
    rename_i hl rr
    refine ⟨l, _, vs, _, rfl, rfl, x.keep _ _ a6 a2 .lst, x.sub _ _ hl, ?_, k.nx ((n.to x).wr e ((a3.mono x.grow).append rr)) p.2⟩
    have h5 := a3.length
    have h6 := rr.length
    have h7 := p.1
    exact Nat.le_trans (by omega) (by decide : 100000 ≤ sizeLine)
end
end DL

namespace DL
open PySem PySem.Spec PyProof.Rows L2 PySem.Calls
theorem LamN.q {q q' : Str} {p : Arguments} {e : Expr} {sc : Scope} {df : Bool} {fv N : List Str} (n : LamN ⟨q, p, e, sc, df, fv⟩ N) : LamN ⟨q', p, e, sc, df, fv⟩ N := ⟨n.nd, n.kind, n.co, n.gen, n.cell, n.to, n.fr⟩
theorem RoomH.units {k : Nat} {A : Around} (r : RoomH k A) : A.units + 64 < cLine := by have := r.wide; omega
theorem RoomH.mono {j k : Nat} {A : Around} (r : RoomH k A) (h : j ≤ k) : RoomH j A := r.less h
/-- in a handler -/
theorem RoomH.suite {k : Nat} {X : Cx} {a : Addr} {pn : List (Addr × Obj)} (r : Room k X.A) : RoomH k (X.suite a pn).A := ⟨r.dp, r.un⟩
theorem Room.tr {k : Nat} {X : Cx} {pn : List (Addr × Obj)} {xe : Value → Shared → Prop} (r : Room k X.A) : Room k (X.tr pn xe).A := r
theorem CapN.nil {X : Cx} : CapN X [] := ⟨fun _ h => absurd h List.not_mem_nil, fun _ h => absurd h List.not_mem_nil, fun _ h => absurd h List.not_mem_nil, .nil⟩
theorem CapN.cons {X : Cx} {x : Str} {i : Nat} {r : List (Str × Nat)} (h1 : X.N[i]? = some x) (h2 : X.env.scope.names.lookup x = some .cell) (h3 : X.fn x = true) (h4 : x ∉ r.map (·.1)) (C : CapN X r) : CapN X ((x, i) :: r) :=
  ⟨fun q h => (List.mem_cons.mp h).elim (fun e => by rw [e]; exact h1) (C.at_ q), fun q h => (List.mem_cons.mp h).elim (fun e => by rw [e]; exact h2) (C.cell q), fun q h => (List.mem_cons.mp h).elim (fun e => by rw [e]; exact h3) (C.own q), List.nodup_cons.mpr ⟨h4, C.nd⟩⟩
@[reducible] def calmT (T : DSpX) : DSp := fun ds P => T ds P fun _ => False
@[reducible] def calmI (T : DIpX) : DIp := fun ds P => T ds P fun _ => False
/-- a head of a code: its last place is another's, its three counts are numbers and its name a string -/
theorem codeHd_mk {K : PySem.W.Frag} {c P : Addr} {d : Option Addr} {vs : Array Value} {sl : Array (Option Value)} (h : K.lookup c = some ⟨.type "code", d, .fields vs, sl⟩)
    (v11 : vs[11]? = some (.ref P)) (v18 : ∃ a t, vs.getD 18 .none = .str a t) (v7 : ∃ a t, vs.getD 7 .none = .int a t) (v9 : ∃ a, vs.getD 9 .none = .bool a) (v10 : ∃ a t, vs.getD 10 .none = .int a t) (ne : c ≠ P) :
    PySem.W.codeHdIn K c P = true := by
  obtain ⟨_, _, e18⟩ := v18
  obtain ⟨_, _, e7⟩ := v7
  obtain ⟨_, e9⟩ := v9
  obtain ⟨_, _, e10⟩ := v10
  unfold PySem.W.codeHdIn
  rw [h]
  simp [v11, e18, e7, e9, e10, ne]
/-! ### what a law asks of a deed -/
/-- what is to be known of an exception's class -/
structure ExcOk (K : PySem.W.Frag) (C : Addr) (ns : List Str) : Prop where
  xf : XfC K C
  cd : PySem.W.findIn K (.ref C) "code" = some none
  fd : ∀ n, n ∈ ns → PySem.W.findIn K (.ref C) n = some none
theorem ExcOk.zero {K : PySem.W.Frag} {C : Addr} (x : XfC K C) (h : PySem.W.findIn K (.ref C) "code" = some none) : ExcOk K C [] := ⟨x, h, fun _ h => absurd h List.not_mem_nil⟩
theorem ExcOk.one {K : PySem.W.Frag} {C : Addr} {n : Str} (x : XfC K C) (h : PySem.W.findIn K (.ref C) "code" = some none) (h1 : PySem.W.findIn K (.ref C) n = some none) : ExcOk K C [n] := ⟨x, h, fun m hm => by rw [List.mem_singleton.mp hm]; exact h1⟩
theorem ExcOk.two {K : PySem.W.Frag} {C : Addr} {n1 n2 : Str} (x : XfC K C) (h : PySem.W.findIn K (.ref C) "code" = some none) (h1 : PySem.W.findIn K (.ref C) n1 = some none) (h2 : PySem.W.findIn K (.ref C) n2 = some none) : ExcOk K C [n1, n2] :=
  ⟨x, h, fun m hm => by
    rcases List.mem_cons.mp hm with e | hm
    · rw [e]; exact h1
    · rw [List.mem_singleton.mp hm]; exact h2⟩
abbrev Codes := List (Str × List Str)
def fieldsT (K : PySem.W.Frag) (cs : Codes) : DSp := fun ds P => ∃ (C : Addr) (code : Str) (ns : List Str) (zs : List Dt), ds = [.exc C (excF code ns Dt.str zs)] ∧ ExcOk K C ns ∧ (code, ns) ∈ cs ∧ zs.length = ns.length ∧ P (.tup zs)
/-- one that the law's own except takes, its code among cs -/
def TakenX (K : PySem.W.Frag) (xs : List Value) (cs : Codes) (Q : Str → List Dt → Prop) (x : Xd) : Prop := PySem.W.exmAny K (.ref x.1) xs = some true ∧ ∃ (code : Str) (ns : List Str) (zs : List Dt), x.2 = excF code ns Dt.str zs ∧ ExcOk K x.1 ns ∧ (code, ns) ∈ cs ∧ zs.length = ns.length ∧ zs.length ≤ 100 ∧ Q code zs
section
variable (P : Program) (w : World) (K : PySem.W.Frag) (mg : Str → Option Value) (base : Heap) (b : Bg) (k : Nat) (xs : List Value) (cs : Codes)
def gotT : DSp := fun ds Q => ∃ (L : Lam) (cl : List (Str × Dt)), ds = [.clo L cl] ∧ CloBeh P w K mg base b k L cl (fun d => Q (.tup [.str ("" : Str), d])) (TakenX K xs cs fun code zs => Q (.tup [.str code, .tup zs]))
def whyT : DSp := fun ds Q => ∃ (L : Lam) (cl : List (Str × Dt)), ds = [.clo L cl] ∧ CloBeh P w K mg base b k L cl (fun d => Q (.tup [.str ("" : Str), .non])) (TakenX K xs cs fun code zs => Q (.tup [.str code, .tup zs]))
end
end DL

namespace Pf
open PySem PySem.Spec PyProof.Rows L2 DL
abbrev lts : Str := "abcdefghijklmnpqrstuvwxyz"
/-- one to five of the law's letters, the one that both words of the rules have left out -/
def plainName (z : Str) : Prop := 1 ≤ z.length ∧ z.length ≤ 5 ∧ ∀ c, c ∈ z.cps.toList → c ∈ lts.cps.toList
/-- changes of a rule as data -/
abbrev Chg := List (Str × List (Str × Int))
@[reducible] def termsD (ts : List (Str × Int)) : Dt := .tup (ts.map fun t => Dt.tup [.str t.1, .int t.2])
@[reducible] def chgD (cs : Chg) : Dt := .tup (cs.map fun c => Dt.tup [.str c.1, termsD c.2])
def GoodT (rg : List Str) (ts : List (Str × Int)) : Prop := (ts.map (·.1)).Nodup ∧ ∀ t, t ∈ ts → (t.1 ∈ rg ∨ t.1 = "amount" ∨ t.1 = "one") ∧ -1000 ≤ t.2 ∧ t.2 ≤ 1000
def GoodC (rg : List Str) (cs : Chg) : Prop := (cs.map (·.1)).Nodup ∧ ∀ c, c ∈ cs → c.1 ∈ rg ∧ GoodT rg c.2
/-- a rule, a spec -/
abbrev Rul := Str × Str × Str × Chg
@[reducible] def ruleD (r : Rul) : Dt := .tup [.str r.1, .str r.2.1, .str r.2.2.1, chgD r.2.2.2]
@[reducible] def specD (ms rg sg : List Str) (rs : List Rul) : Dt := .dK [("modes", .lst (ms.map Dt.str)), ("registers", .lst (rg.map Dt.str)), ("signs", .lst (sg.map Dt.str)), ("rules", .lst (rs.map ruleD))]
structure GoodS (W S : Int) (ms rg sg : List Str) (rs : List Rul) : Prop where
  m0 : 1 ≤ ms.length
  m1 : ms.length ≤ 4
  mn : ms.Nodup
  mp : ∀ y, y ∈ ms → plainName y
  r1 : rg.length ≤ 4
  rn : rg.Nodup
  rp : ∀ y, y ∈ rg → plainName y
  wid : (ms.length : Int) * (rg.length + 1) ≤ W
  s0 : 1 ≤ sg.length
  s1 : (sg.length : Int) ≤ S
  sn : sg.Nodup
  sp : ∀ y, y ∈ sg → plainName y
  un : (rs.map fun r => (r.1, r.2.1)).Nodup
  good : ∀ r, r ∈ rs → r.1 ∈ ms ∧ r.2.1 ∈ sg ∧ r.2.2.1 ∈ ms ∧ GoodC rg r.2.2.2
def unS : Dt → Str
  | .str s => s
  | _ => Str.empty
theorem perm_strs {ys : List Dt} {rg : List Str} (h : ys.Perm (rg.map Dt.str)) : ∃ ns : List Str, ys = ns.map Dt.str ∧ ns.Perm rg := by
  have e : ∀ ys : List Dt, (∀ y, y ∈ ys → ∃ s, y = .str s) → ys = (ys.map unS).map Dt.str := fun ys => by
    induction ys with
    | nil => intro _; rfl
    | cons y ys ih =>
      intro hy
      obtain ⟨s, rfl⟩ := hy y List.mem_cons_self
      rw [List.map_cons, List.map_cons, ← ih fun z hz => hy z (List.mem_cons_of_mem _ hz)] <;> rfl
  refine ⟨ys.map unS, e ys fun y hy => ?_, ?_⟩
  · obtain ⟨s, _, rfl⟩ := List.mem_map.mp (h.mem_iff.mp hy)
    exact ⟨s, rfl⟩
  · have := h.map unS
    rw [List.map_map] at this
    rwa [show (unS ∘ Dt.str) = id from rfl, List.map_id] at this
theorem strs_ok : ∀ {l : List Str}, (∀ y, y ∈ l → PyData.strOk y = true) → plainL (l.map Dt.str) = true ∧ PyData.canLayAll0 (pyL (l.map Dt.str)) = true ∧ PyData.depthAll (pyL (l.map Dt.str)) = 0
  | [], _ => ⟨rfl, rfl, rfl⟩
  | x :: xs, h => by
    obtain ⟨h1, h2, h3⟩ := strs_ok (l := xs) fun y hy => h y (List.mem_cons_of_mem _ hy)
    refine ⟨?_, ?_, ?_⟩
    · show (plain (.str x) && plainL (xs.map Dt.str)) = true
      rw [h1] <;> rfl
    · show (PyData.strOk x && PyData.canLayAll0 (pyL (xs.map Dt.str))) = true
      rw [h2, h x List.mem_cons_self] <;> rfl
    · show max (PyData.depth (.str x)) (PyData.depthAll (pyL (xs.map Dt.str))) = 0
      rw [h3] <;> rfl
theorem strs_eqOk {l : List Str} (h : ∀ y, y ∈ l → PyData.strOk y = true) : eqOk (.lst (l.map Dt.str)) = true := by
  obtain ⟨h1, h2, h3⟩ := strs_ok h
  show (plainL (l.map Dt.str) && (PyData.canLayAll0 (pyL (l.map Dt.str)) && decide (PyData.depthAll (pyL (l.map Dt.str)) + 1 ≤ 64))) = true
  rw [h1, h2, h3] <;> rfl
theorem src_nodup {rg : List Str} (h : rg.Nodup) (hne : ∀ y, y ∈ rg → y ≠ "amount" ∧ y ≠ "one") : (rg.map Dt.str ++ [Dt.str "amount", Dt.str "one"]).Nodup := by
  refine List.nodup_append.mpr ⟨List.pairwise_map.mpr (h.imp fun h e => h (Dt.str.inj e)), by simp; decide, fun a ha c hc e => ?_⟩
  obtain ⟨s, hs, rfl⟩ := List.mem_map.mp ha
  rcases List.mem_cons.mp hc with q | q
  · exact (hne s hs).1 (Dt.str.inj (e.trans q))
  · exact (hne s hs).2 (Dt.str.inj (e.trans (List.mem_singleton.mp q)))
theorem terms_good {rg : List Str} {ts : List (Dt × Int)} (hnd : (ts.map (·.1)).Nodup) (h : ∀ t, t ∈ ts → t.1 ∈ rg.map Dt.str ++ [Dt.str "amount", Dt.str "one"] ∧ -1000 ≤ t.2 ∧ t.2 ≤ 1000) :
    Dt.tup (ts.map fun t => Dt.tup [t.1, .int t.2]) = termsD (ts.map fun t => (unS t.1, t.2)) ∧ GoodT rg (ts.map fun t => (unS t.1, t.2)) := by
  have hs : ∀ t, t ∈ ts → t.1 = .str (unS t.1) := fun t ht => by
    rcases List.mem_append.mp (h t ht).1 with q | q
    · obtain ⟨s, _, e⟩ := List.mem_map.mp q
      rw [← e] <;> rfl
    · rcases List.mem_cons.mp q with q | q
      · rw [q] <;> rfl
      · rw [List.mem_singleton.mp q] <;> rfl
  refine ⟨?_, ?_, fun t ht => ?_⟩
  · show _ = Dt.tup ((ts.map fun t => (unS t.1, t.2)).map fun t => Dt.tup [.str t.1, .int t.2])
    rw [List.map_map]
    congr 1
    apply List.map_congr_left
    intro t ht
    show Dt.tup [t.1, .int t.2] = Dt.tup [.str (unS t.1), .int t.2]
    rw [← hs t ht]
  · rw [List.map_map]
    refine List.pairwise_map.mpr ((List.pairwise_map.mp hnd).imp_of_mem fun {x y} hx hy hne he => hne ?_)
    have he2 : unS x.1 = unS y.1 := he
    rw [hs x hx, hs y hy, he2]
  · obtain ⟨t0, h0, rfl⟩ := List.mem_map.mp ht
    obtain ⟨m, b1, b2⟩ := h t0 h0
    refine ⟨?_, b1, b2⟩
    show unS t0.1 ∈ rg ∨ unS t0.1 = "amount" ∨ unS t0.1 = "one"
    rcases List.mem_append.mp m with q | q
    · obtain ⟨s, hs', e⟩ := List.mem_map.mp q
      rw [← e]; exact .inl hs'
    · rcases List.mem_cons.mp q with q | q
      · rw [q]; exact .inr (.inl rfl)
      · rw [List.mem_singleton.mp q]; exact .inr (.inr rfl)
theorem sIx_at {n d : Nat} {a : Int} (h0 : 0 ≤ a) (h1 : a ≤ n) : HT.sIx n d (some a) = a.toNat := by
  show (if a < 0 then (a + (n : Int)).toNat else min a.toNat n) = _
  rw [if_neg (by omega)]
  omega
theorem cut_pre {z : Str} {a : Int} (h0 : 0 ≤ a) (h1 : a ≤ z.length) : (cutS z none (some a)).cps.toList = z.cps.toList.take a.toNat := by
  unfold cutS
  rw [sIx_at h0 h1]
  show ((z.cps.toList.drop 0).take (a.toNat - 0)).toArray.toList = _
  simp
theorem cut_suf {z : Str} {a : Int} (h0 : 0 ≤ a) (h1 : a ≤ z.length) : (cutS z (some a) none).cps.toList = z.cps.toList.drop a.toNat := by
  unfold cutS
  rw [sIx_at h0 h1]
  show ((z.cps.toList.drop a.toNat).take (z.length - a.toNat)).toArray.toList = _
  rw [show z.length = z.cps.toList.length from rfl, ← List.length_drop, List.take_length]
theorem step25 : ∀ k : Fin 13, k.val ∈ [1, 2, 3, 4, 6, 7, 8, 9, 11, 12] → ∀ i j : Fin 20, (i.val * k.val) % 25 = (j.val * k.val) % 25 → i = j := by decide +kernel
theorem lts_inj : ∀ i j : Fin 25, lts.cps.toList.getD i.val 0 = lts.cps.toList.getD j.val 0 → i = j := by decide +kernel
theorem str_app (a b : Str) : (a ++ b).cps.toList = a.cps.toList ++ b.cps.toList := by
  show (a.cps ++ b.cps).toList = _
  rw [Array.toList_append]
theorem join_mem {c : Nat} : ∀ {cs : List Str}, c ∈ (Str.join "" cs).cps.toList → ∃ w, w ∈ cs ∧ c ∈ w.cps.toList
  | [], h => by
    have : (Str.join "" []).cps.toList = [] := rfl
    rw [this] at h
    cases h
  | [x], h => ⟨x, List.mem_cons_self, h⟩
  | x :: y :: cs, h => by
    have e : Str.join "" (x :: y :: cs) = x ++ "" ++ Str.join "" (y :: cs) := rfl
    rw [e, str_app, str_app, show (("" : Str)).cps.toList = [] from rfl, List.append_nil] at h
    rcases List.mem_append.mp h with h | h
    · exact ⟨x, List.mem_cons_self, h⟩
    · obtain ⟨w, h1, h2⟩ := join_mem h
      exact ⟨w, List.mem_cons_of_mem _ h1, h2⟩
theorem cutD_len (xs : List Dt) (lo hi : Option Int) : (DL.cutD xs lo hi).length ≤ xs.length := by
  unfold DL.cutD
  rw [List.length_take, List.length_drop]
  omega
theorem cutD_mem {xs : List Dt} {lo hi : Option Int} {y : Dt} (h : y ∈ DL.cutD xs lo hi) : y ∈ xs := List.mem_of_mem_drop (List.mem_of_mem_take h)
def kvsD (ms rg sg : List Str) (d : Dt) : List (Str × Dt) := [("modes", .lst (ms.map Dt.str)), ("registers", .lst (rg.map Dt.str)), ("signs", .lst (sg.map Dt.str)), ("rules", d)]
theorem noObj_strs : ∀ l : List Str, noObjL (l.map Dt.str) = true
  | [] => rfl
  | x :: xs => by
    show (noObj (.str x) && noObjL (xs.map Dt.str)) = true
    rw [noObj_strs xs] <;> rfl
theorem noObj_terms : ∀ ts : List (Str × Int), noObjL (ts.map fun t => Dt.tup [.str t.1, .int t.2]) = true
  | [] => rfl
  | x :: xs => by
    show ((true && (true && true)) && noObjL (xs.map fun t => Dt.tup [.str t.1, .int t.2])) = true
    rw [noObj_terms xs] <;> rfl
theorem noObj_chg : ∀ cs : Chg, noObjL (cs.map fun c => Dt.tup [.str c.1, termsD c.2]) = true
  | [] => rfl
  | x :: xs => by
    show ((true && (noObjL (x.2.map fun t => Dt.tup [.str t.1, .int t.2]) && true)) && noObjL (xs.map fun c => Dt.tup [.str c.1, termsD c.2])) = true
    rw [noObj_terms, noObj_chg xs] <;> rfl
theorem noObj_rules : ∀ rs : List Rul, noObjL (rs.map ruleD) = true
  | [] => rfl
  | x :: xs => by
    show ((true && (true && (true && (noObjL (x.2.2.2.map fun c => Dt.tup [.str c.1, termsD c.2]) && true)))) && noObjL (xs.map ruleD)) = true
    rw [noObj_chg, noObj_rules xs] <;> rfl
theorem not_in_take {α : Type} : ∀ {xs : List α} {i : Nat} {x : α}, xs.Nodup → xs[i]? = some x → x ∉ xs.take i
  | [], i, x, _, e => by simp at e
  | y :: ys, 0, x, _, _ => by simp
  | y :: ys, i + 1, x, h, e => by
    have e2 : ys[i]? = some x := by simpa using e
    obtain ⟨h1, h2⟩ := List.nodup_cons.mp h
    intro hm
    rcases List.mem_cons.mp (show x ∈ y :: ys.take i from hm) with q | q
    · rw [q] at e2
      exact h1 (List.mem_of_getElem? e2)
    · exact not_in_take h2 e2 q
theorem perm_map {α : Type} {f : α → Dt} {ys zs : List Dt} (h : ys.Perm zs) : ∀ rs : List α, zs = rs.map f → ∃ rs' : List α, ys = rs'.map f ∧ rs'.Perm rs := by
  induction h with
  | nil => intro rs e; exact ⟨[], rfl, by cases rs with | nil => exact .refl _ | cons _ _ => cases e⟩
  | cons x h ih =>
    intro rs e
    cases rs with
    | nil => cases e
    | cons r rs =>
      rw [List.map_cons] at e
      obtain ⟨e1, e2⟩ := List.cons.inj e
      obtain ⟨rs', h1, h2⟩ := ih rs e2
      exact ⟨r :: rs', by rw [List.map_cons, e1, h1], h2.cons r⟩
  | swap x y l =>
    intro rs e
    match rs, e with
    | a :: c :: rs, e =>
      simp only [List.map_cons, List.cons.injEq] at e
      obtain ⟨e1, e2, e3⟩ := e
      exact ⟨c :: a :: rs, by simp only [List.map_cons, e1, e2, e3], .swap a c rs⟩
  | trans h1 h2 ih1 ih2 =>
    intro rs e
    obtain ⟨rs1, a1, a2⟩ := ih2 rs e
    obtain ⟨rs2, b1, b2⟩ := ih1 rs1 a1
    exact ⟨rs2, b1, b2.trans a2⟩
def letters (z : Str) : Prop := 1 ≤ z.length ∧ z.length ≤ 5
theorem cutD_pre {xs : List Dt} {a : Int} (h : 0 ≤ a) : DL.cutD xs none (some a) = xs.take a.toNat := by
  unfold DL.cutD
  have h1 : HT.sIx xs.length xs.length (some a) = min a.toNat xs.length := if_neg (by omega)
  have h0 : HT.sIx xs.length 0 none = 0 := rfl
  rw [h1, h0, List.drop_zero, Nat.sub_zero]
  apply List.ext_getElem?
  intro i
  rw [List.getElem?_take, List.getElem?_take]
  by_cases q : i < xs.length
  · by_cases q2 : i < a.toNat
    · rw [if_pos (by omega), if_pos q2]
    · rw [if_neg (by omega), if_neg q2]
  · rw [List.getElem?_eq_none (by omega)]
    split <;> split <;> rfl
theorem lts_ok : ∀ c, c ∈ lts.cps.toList → c < 0x110000 := by decide +kernel
theorem plain_strOk {y : Str} (h : plainName y) : PyData.strOk y = true := by
  show y.cps.all _ = true
  rw [Array.all_eq_true']
  intro c hc
  exact decide_eq_true (lts_ok c (h.2.2 c (Array.mem_toList_iff.mpr hc)))
theorem no_o : ∀ c, c ∈ lts.cps.toList → c ≠ 111 := by decide +kernel
theorem o_in : (111 : Nat) ∈ ("amount" : Str).cps.toList ∧ (111 : Nat) ∈ ("one" : Str).cps.toList := by decide +kernel
theorem plain_words {y : Str} (h : plainName y) : y ≠ "amount" ∧ y ≠ "one" := by
  refine ⟨fun e => ?_, fun e => ?_⟩
  · subst e; exact no_o 111 (h.2.2 111 o_in.1) rfl
  · subst e; exact no_o 111 (h.2.2 111 o_in.2) rfl
theorem eqV_str (x y : Str) : eqV (.str x) (.str y) = decide (y = x) := by
  show (x == y) = decide (y = x)
  by_cases h : y = x
  · subst h; simp
  · have h2 : ¬ x = y := fun e => h e.symm
    simp [h, h2]
theorem sgD_at {z : Str} {i : Nat} {d : Dt} (h : (sgD z)[i]? = some d) : ∃ c, z.cps.toList[i]? = some c ∧ d = .str ⟨#[c]⟩ := by
  unfold sgD at h
  rw [List.getElem?_map] at h
  cases e : z.cps.toList[i]? with
  | none => rw [e] at h; cases h
  | some c => rw [e] at h; exact ⟨c, rfl, (Option.some.inj h).symm⟩
/-- what a name is -/
def nameS (z : Str) : Bool := decide (1 ≤ z.length) && decide (z.length ≤ 6) && !decide (z = "amount") && !decide (z = "one") && z.cps.toList.all fun c => decide (c ∈ ("abcdefghijklmnopqrstuvwxyz" : Str).cps.toList)
theorem az : ∀ c, c ∈ lts.cps.toList → c ∈ ("abcdefghijklmnopqrstuvwxyz" : Str).cps.toList := by decide +kernel
theorem plain_nameS {y : Str} (h : plainName y) : nameS y = true := by
  have hw := plain_words h
  unfold nameS
  rw [decide_eq_true h.1, decide_eq_true (Nat.le_trans h.2.1 (by decide)), decide_eq_false hw.1, decide_eq_false hw.2]
  rw [List.all_eq_true.mpr fun c hc => decide_eq_true (az c (h.2.2 c hc))] <;> rfl
@[reducible] def listD : Dt → Bool
  | .lst _ => true
  | .tup _ => true
  | _ => false
@[reducible] def wholeD : Dt → Bool
  | .int _ => true
  | _ => false
@[reducible] def integerD (lo hi : Int) : Dt → Bool
  | .int i => decide (lo ≤ i) && decide (i ≤ hi)
  | _ => false
@[reducible] def nameD : Dt → Bool
  | .str z => nameS z
  | _ => false
theorem inD_strs {x : Str} : ∀ {l : List Str}, inD (.str x) (l.map Dt.str) = decide (x ∈ l)
  | [] => rfl
  | y :: l => by
    show (eqV (.str y) (.str x) || inD (.str x) (l.map Dt.str)) = _
    rw [inD_strs (l := l), eqV_str]
    by_cases h : x = y
    · subst h; simp
    · simp [h]
theorem flat_strs (l : List Str) : (l.map Dt.str).all flatD = true := by
  rw [List.all_map]; exact List.all_eq_true.mpr fun _ _ => rfl
/-- pairs with names -/
@[reducible] def prD (p : Str × Dt) : Dt := .tup [.str p.1, p.2]
@[reducible] def ins6 (ms rg sg : List Str) (rs : List Rul) (kvs : List (List Key × Dt)) : List (Str × Dt) :=
  [("_modes", .tup (ms.map Dt.str)), ("_registers", .tup (rg.map Dt.str)), ("_signs", .tup (sg.map Dt.str)), ("_rules", .tup (rs.map ruleD)), ("_rule_for", .dT kvs)]
def ruleFor (rs : List Rul) : List (List Key × Dt) := rs.map fun r => ([Sum.inr r.1, Sum.inr r.2.1], ruleD r)
@[reducible] def progD (C : Addr) (ms rg sg : List Str) (rs : List Rul) : Dt := .ins C (ins6 ms rg sg rs (ruleFor rs))
@[reducible] def keyT (r : Rul) : Dt := .tup [.str r.1, .str r.2.1]
theorem key_cmp {r : Rul} (h : PyData.strOk r.1 = true ∧ PyData.strOk r.2.1 = true) : cmpOk (keyT r) = true := by
  show (PyData.strOk r.1 && (PyData.strOk r.2.1 && true)) = true
  rw [h.1, h.2] <;> rfl
theorem key_dep (r : Rul) : dep (keyT r) ≤ 2 := by
  refine dep_tup.mpr fun x hx => ?_
  simp at hx
  rcases hx with rfl | rfl <;> (rw [dep_str] <;> decide)
theorem eqv_pair {q r : Rul} (h : PyData.eqv (py (keyT q)) (py (keyT r)) = true) : q.1 = r.1 ∧ q.2.1 = r.2.1 := by
  have h2 : (decide (q.1 = r.1) && (decide (q.2.1 = r.2.1) && true)) = true := by simpa [py, pyL, PyData.eqv, PyData.eqvAll] using h
  simpa using h2
theorem len_of_sub {α : Type} [DecidableEq α] : ∀ {xs l : List α}, xs.Nodup → (∀ x, x ∈ xs → x ∈ l) → xs.length ≤ l.length
  | [], _, _, _ => Nat.zero_le _
  | x :: xs, l, h, g => by
    obtain ⟨h1, h2⟩ := List.nodup_cons.mp h
    have := len_of_sub (xs := xs) (l := l.erase x) h2 fun y hy => (List.mem_erase_of_ne (fun e => h1 (by rw [← e]; exact hy))).mpr (g y (List.mem_cons_of_mem _ hy))
    rw [List.length_erase_of_mem (g x List.mem_cons_self)] at this
    have h3 : 0 < l.length := List.length_pos_of_mem (g x List.mem_cons_self)
    rw [List.length_cons]
    omega
theorem GoodC.len {rg : List Str} {cs : Chg} (h : GoodC rg cs) : cs.length ≤ rg.length := by
  have := len_of_sub h.1 (l := rg) fun x hx => by
    obtain ⟨c, hc, rfl⟩ := List.mem_map.mp hx
    exact (h.2 c hc).1
  rwa [List.length_map] at this
theorem GoodS.len {W S : Int} {ms rg sg : List Str} {rs : List Rul} (h : GoodS W S ms rg sg rs) (hW : W ≤ 8) (hS : S ≤ 6) : rs.length ≤ 24 := by
  have h1 := len_of_sub h.un (l := ms.flatMap fun m => sg.map fun s => (m, s)) fun x hx => by
    obtain ⟨r, hr, rfl⟩ := List.mem_map.mp hx
    obtain ⟨a, c, _⟩ := h.good r hr
    exact List.mem_flatMap.mpr ⟨r.1, a, List.mem_map.mpr ⟨r.2.1, c, rfl⟩⟩
  rw [List.length_map] at h1
  have h2 : (ms.flatMap fun m => sg.map fun s => (m, s)).length = ms.length * sg.length := by
    generalize ms = l
    induction l with
    | nil => simp
    | cons a l ih => rw [List.flatMap_cons, List.length_append, ih, List.length_map, List.length_cons, Nat.succ_mul]; omega
  have h3 : ms.length * sg.length ≤ 4 * 6 := Nat.mul_le_mul h.m1 (by have := h.s1; omega)
  omega
theorem decT {p : Prop} [Decidable p] (h : p) : decide p = true := decide_eq_true h
theorem decF {p : Prop} [Decidable p] (h : ¬ p) : decide p = false := decide_eq_false h

theorem noExL_map {α : Type} {f : α → Dt} (h : ∀ a, noEx (f a) = true) : ∀ l : List α, noExL (l.map f) = true
  | [] => rfl
  | a :: l => by
    show (noEx (f a) && noExL (l.map f)) = true
    rw [h a, noExL_map h l] <;> rfl
theorem noEx_ints (vs : List Int) : noExL (vs.map Dt.int) = true := noExL_map (fun _ => rfl) vs
theorem noEx_strs (vs : List Str) : noExL (vs.map Dt.str) = true := noExL_map (fun _ => rfl) vs
theorem noEx_state (m : Str) (vs : List Int) : noEx (.tup [.str m, .tup (vs.map Dt.int)]) = true := by
  show (true && (noExL (vs.map Dt.int) && true)) = true
  rw [noEx_ints] <;> rfl
theorem noEx_terms (ts : List (Str × Int)) : noEx (termsD ts) = true := noExL_map (fun _ => rfl) ts
theorem noEx_rule (r : Rul) : noEx (ruleD r) = true := by
  have h : noEx (chgD r.2.2.2) = true := noExL_map (fun c => by
    show (true && (noEx (termsD c.2) && true)) = true
    rw [noEx_terms] <;> rfl) _
  show (true && (true && (true && (noEx (chgD r.2.2.2) && true)))) = true
  rw [h] <;> rfl
theorem noExD_rules : ∀ rs : List Rul, noExD (ruleFor rs) = true
  | [] => rfl
  | r :: rs => by
    show (noEx (ruleD r) && noExD (ruleFor rs)) = true
    rw [noEx_rule, noExD_rules rs] <;> rfl
theorem noEx_prog (C : Addr) (ms rg sg : List Str) (rs : List Rul) : noEx (progD C ms rg sg rs) = true := by
  show (noExL (ms.map Dt.str) && (noExL (rg.map Dt.str) && (noExL (sg.map Dt.str) && (noExL (rs.map ruleD) && (noExD (ruleFor rs) && true))))) = true
  rw [noEx_strs, noEx_strs, noEx_strs, noExL_map noEx_rule, noExD_rules] <;> rfl
@[reducible] def memD (ms : List Str) : Dt → Bool
  | .str s => decide (s ∈ ms)
  | _ => false
theorem inD_mem (ms : List Str) : ∀ {m : Dt}, flatD m = true → inD m (ms.map Dt.str) = memD ms m
  | .str s, _ => inD_strs
  | .non, _ => by
    unfold inD
    rw [List.any_map]
    exact List.any_eq_false.mpr fun y _ => by show ¬ (eqV (.str y) .non = true); intro h; cases h
  | .bl k, _ => by
    unfold inD
    rw [List.any_map]
    exact List.any_eq_false.mpr fun y _ => by show ¬ (eqV (.str y) (.bl k) = true); intro h; cases h
  | .int k, _ => by
    unfold inD
    rw [List.any_map]
    exact List.any_eq_false.mpr fun y _ => by show ¬ (eqV (.str y) (.int k) = true); intro h; cases h
@[reducible] def stateD (ms rg : List Str) : Dt → Bool
  | .tup [m, y] => (match y with | .tup vs => memD ms m && (decide (vs.length = rg.length) && vs.all wholeD) | _ => false)
  | _ => false
@[reducible] def eventD (sg : List Str) : Dt → Bool
  | .tup [s, a] => memD sg s && integerD (-1000000000000) 1000000000000 a
  | _ => false
def stOk (x : Dt) : Prop := known x = true ∧ noEx x = true ∧ ∀ m y, x = .tup [m, y] → flatD m = true ∧ known y = true ∧ ∀ vs, y = .tup vs → vs.length ≤ 1000 ∧ vs.all known = true
def evOk (x : Dt) : Prop := known x = true ∧ ∀ s a, x = .tup [s, a] → flatD s = true ∧ known a = true
def nestD : Nat → Dt
  | 0 => .tup []
  | n + 1 => .tup [nestD n]
theorem zoo_not {ms : List Str} (h : ∀ y, y ∈ ms → plainName y) : ¬ ("zoo" : Str) ∈ ms := fun hm => absurd ((h _ hm).2.2 111 (by decide +kernel)) (by decide +kernel)
theorem ooo_not {ms : List Str} (h : ∀ y, y ∈ ms → plainName y) : ¬ ("ooo" : Str) ∈ ms := fun hm => absurd ((h _ hm).2.2 111 (by decide +kernel)) (by decide +kernel)
theorem atI_last {α : Type} {xs : List α} (h : 0 < xs.length) : ∃ d, d ∈ xs ∧ atI xs (-1) = some d := by
  have hn : xs.length - 1 < xs.length := by omega
  refine ⟨xs[xs.length - 1], List.getElem_mem hn, ?_⟩
  show (ixN xs.length (-1)).bind _ = _
  have e : ixN xs.length (-1) = some (xs.length - 1) := by
    unfold ixN
    rw [if_neg (by decide), if_pos (by omega)]
    congr 1; omega
  rw [e]
  exact List.getElem?_eq_getElem hn
theorem ruleFor_take (rs : List Rul) (h : (rs.map fun r => (r.1, r.2.1)).Nodup) {i : Nat} {r : Rul} (e : rs[i]? = some r) : putT (ruleFor (rs.take i)) [Sum.inr r.1, Sum.inr r.2.1] (ruleD r) = ruleFor (rs.take (i + 1)) := by
  unfold putT
  have hno : ((ruleFor (rs.take i)).any fun q => decide (q.1 = [Sum.inr r.1, Sum.inr r.2.1])) = false := by
    unfold ruleFor
    rw [List.any_map, List.any_eq_false]
    intro q hq hh
    have h1 : (rs.map fun r => (r.1, r.2.1))[i]? = some (r.1, r.2.1) := by rw [List.getElem?_map, e] <;> rfl
    have h2 := not_in_take h h1
    rw [← List.map_take] at h2
    have h3 : [Sum.inr q.1, Sum.inr q.2.1] = [(Sum.inr r.1 : Key), Sum.inr r.2.1] := of_decide_eq_true hh
    injection h3 with h4 h5
    injection h5 with h5 _
    exact h2 (List.mem_map.mpr ⟨q, hq, by rw [Sum.inr.inj h4, Sum.inr.inj h5]⟩)
  rw [if_neg (by rw [hno]; decide), List.take_add_one, e]
  unfold ruleFor
  rw [List.map_append] <;> rfl

end Pf

namespace Pf
open PySem PySem.Spec PyProof.Rows L2 DL
/-! rows of states -/
def rowL (ms : List Str) (m : Str) (vs : List Int) : List Int := ms.flatMap fun o => if o = m then 1 :: vs else List.replicate (vs.length + 1) 0
def atP (n : Nat) (zs : List Int) (i : Nat) : List Int := (zs.drop (i * (n + 1) + 1)).take n
def hits (ms : List Str) (n : Nat) (zs : List Int) (p : Str × Nat) : Bool := decide (rowL ms p.1 (atP n zs p.2) = zs)
def stateOf (ms : List Str) (n : Nat) (zs : List Int) : Option (Str × List Int) := (ms.zipIdx.find? (hits ms n zs)).map fun p => (p.1, atP n zs p.2)
theorem flat_len {f : Str → List Int} {k : Nat} (hf : ∀ o, (f o).length = k) : ∀ l : List Str, (l.flatMap f).length = l.length * k
  | [] => by simp
  | a :: l => by rw [List.flatMap_cons, List.length_append, hf, flat_len hf l, List.length_cons, Nat.succ_mul]; omega
theorem rowL_len (ms : List Str) (m : Str) (vs : List Int) : (rowL ms m vs).length = ms.length * (vs.length + 1) := flat_len (fun o => by
  by_cases h : o = m
  · rw [if_pos h] <;> rfl
  · rw [if_neg h, List.length_replicate]) ms
theorem atP_flat {n : Nat} {f : Str → List Int} (hf : ∀ o, (f o).length = n + 1) : ∀ {l : List Str} {i : Nat} {o : Str}, l[i]? = some o → atP n (l.flatMap f) i = (f o).tail
  | [], _, _, h => by cases h
  | a :: l, 0, o, h => by
    obtain rfl : a = o := Option.some.inj h
    unfold atP
    rw [List.flatMap_cons]
    have h1 := hf a
    cases e : f a with
    | nil => rw [e] at h1; cases h1
    | cons z r =>
      rw [e] at h1
      have h2 : r.length = n := Nat.succ.inj h1
      show ((z :: r ++ l.flatMap f).drop (0 * (n + 1) + 1)).take n = r
      rw [Nat.zero_mul, List.cons_append]
      show ((r ++ l.flatMap f)).take n = r
      rw [← h2, List.take_left]
  | a :: l, i + 1, o, h => by
    have h2 : l[i]? = some o := h
    have ih := atP_flat hf h2
    unfold atP at ih ⊢
    rw [List.flatMap_cons, show (i + 1) * (n + 1) + 1 = (f a).length + (i * (n + 1) + 1) from by rw [hf a, Nat.succ_mul]; omega, List.drop_append]
    rw [← ih]
    rw [List.drop_of_length_le (by omega), List.nil_append, Nat.add_sub_cancel_left]
theorem flat_inj {f g : Str → List Int} (hl : ∀ o, (f o).length = (g o).length) : ∀ {l : List Str}, l.flatMap f = l.flatMap g → ∀ o, o ∈ l → f o = g o
  | a :: l, h, o, ho => by
    rw [List.flatMap_cons, List.flatMap_cons] at h
    obtain ⟨h1, h2⟩ := List.append_inj h (hl a)
    rcases List.mem_cons.mp ho with e | ho
    · rw [e]; exact h1
    · exact flat_inj hl h2 o ho
theorem rowL_at {ms : List Str} {m o : Str} {vs : List Int} {i : Nat} (h : ms[i]? = some o) : atP vs.length (rowL ms m vs) i = if o = m then vs else List.replicate vs.length 0 := by
  unfold rowL
  rw [atP_flat (fun o => by
    by_cases h : o = m
    · rw [if_pos h] <;> rfl
    · rw [if_neg h, List.length_replicate]) h]
  by_cases h : o = m
  · rw [if_pos h, if_pos h] <;> rfl
  · rw [if_neg h, if_neg h] <;> rfl
theorem hits_row {ms : List Str} {m : Str} {vs : List Int} {p : Str × Nat} (h : ms[p.2]? = some p.1) : hits ms vs.length (rowL ms m vs) p = decide (p.1 = m) := by
  unfold hits
  rw [rowL_at h]
  by_cases e : p.1 = m
  · rw [if_pos e, e, decide_eq_true rfl, decide_eq_true rfl]
  · rw [if_neg e, decide_eq_false e]
    refine decide_eq_false fun z => ?_
    unfold rowL at z
    rw [List.length_replicate] at z
    have q := flat_inj (fun o => by
      by_cases h1 : o = p.1 <;> by_cases h2 : o = m
      · rw [if_pos h1, if_pos h2, List.length_cons, List.length_cons, List.length_replicate]
      · rw [if_pos h1, if_neg h2, List.length_cons, List.length_replicate, List.length_replicate]
      · rw [if_neg h1, if_pos h2, List.length_cons, List.length_replicate]
      · rw [if_neg h1, if_neg h2]) z p.1 (List.mem_of_getElem? h)
    rw [if_pos rfl, if_neg e, List.replicate_succ] at q
    injection q with q _
    exact absurd q (by decide)
theorem find_at {α : Type} {t : α → Bool} : ∀ {l : List α} {i : Nat} {p : α}, l[i]? = some p → (∀ q, q ∈ l.take i → t q = false) → t p = true → l.find? t = some p
  | [], _, _, h, _, _ => by cases h
  | a :: l, 0, p, h, _, ht => by
    obtain rfl : a = p := Option.some.inj h
    rw [List.find?_cons, ht]
  | a :: l, i + 1, p, h, hq, ht => by
    rw [List.find?_cons, hq a (by rw [List.take_succ_cons]; exact List.mem_cons_self)]
    exact find_at (i := i) h (fun q hm => hq q (by rw [List.take_succ_cons]; exact List.mem_cons_of_mem _ hm)) ht
theorem find_no {α : Type} {t : α → Bool} {l : List α} (h : ∀ q, q ∈ l → t q = false) : l.find? t = none := List.find?_eq_none.mpr fun q hq => by rw [h q hq]; exact Bool.false_ne_true
theorem zip_at {ms : List Str} {p : Str × Nat} (h : p ∈ ms.zipIdx) : ms[p.2]? = some p.1 := by
  obtain ⟨o, i⟩ := p
  exact List.mem_zipIdx_iff_getElem?.mp h
theorem stateOf_row {ms : List Str} {m : Str} {vs : List Int} (hm : m ∈ ms) : stateOf ms vs.length (rowL ms m vs) = some (m, vs) := by
  unfold stateOf
  cases e : ms.zipIdx.find? (hits ms vs.length (rowL ms m vs)) with
  | none =>
    obtain ⟨i, hi⟩ := List.getElem?_of_mem hm
    have q := List.find?_eq_none.mp e (m, i) (List.mem_zipIdx_iff_getElem?.mpr hi)
    rw [hits_row (p := (m, i)) hi, decide_eq_true rfl] at q
    exact absurd rfl q
  | some p =>
    have h1 := zip_at (List.mem_of_find?_eq_some e)
    have h2 := List.find?_some e
    rw [hits_row h1] at h2
    have h3 := of_decide_eq_true h2
    show some (p.1, atP vs.length (rowL ms m vs) p.2) = _
    rw [rowL_at h1, if_pos h3, h3]
/-! data of rows -/
@[reducible] def rowB (ms rg : List Str) : Dt → Bool
  | .tup zs => decide (zs.length = ms.length * (rg.length + 1)) && zs.all wholeD
  | _ => false
def rwOk (x : Dt) : Prop := known x = true ∧ noEx x = true ∧ ∀ zs, x = .tup zs → zs.length ≤ 1000 ∧ zs.all known = true
theorem whole_ints (zs : List Int) : (zs.map Dt.int).all wholeD = true := by
  rw [List.all_map]
  exact List.all_eq_true.mpr fun _ _ => rfl
theorem all_whole : ∀ {zs : List Dt}, zs.all wholeD = true → ∃ vs : List Int, zs = vs.map Dt.int
  | [], _ => ⟨[], rfl⟩
  | z :: zs, h => by
    obtain ⟨h1, h2⟩ := Bool.and_eq_true_iff.mp (show (wholeD z && zs.all wholeD) = true from h)
    obtain ⟨vs, e⟩ := all_whole h2
    cases z with
    | int i => exact ⟨i :: vs, by rw [e] <;> rfl⟩
    | _ => cases h1
theorem rowB_ints {ms rg : List Str} {x : Dt} (h : rowB ms rg x = true) : ∃ zs : List Int, x = .tup (zs.map Dt.int) ∧ zs.length = ms.length * (rg.length + 1) := by
  cases x with
  | tup zs =>
    obtain ⟨h1, h2⟩ := Bool.and_eq_true_iff.mp (show (decide (zs.length = ms.length * (rg.length + 1)) && zs.all wholeD) = true from h)
    obtain ⟨vs, rfl⟩ := all_whole h2
    have h3 := of_decide_eq_true h1
    rw [List.length_map] at h3
    exact ⟨vs, rfl, h3⟩
  | _ => cases h
theorem rowB_of {ms rg : List Str} {zs : List Int} (h : zs.length = ms.length * (rg.length + 1)) : rowB ms rg (.tup (zs.map Dt.int)) = true := by
  show (decide ((zs.map Dt.int).length = ms.length * (rg.length + 1)) && (zs.map Dt.int).all wholeD) = true
  rw [List.length_map, decT h, whole_ints] <;> rfl
theorem stateD_ints {ms rg : List Str} {x : Dt} (h : stateD ms rg x = true) : ∃ (m : Str) (vs : List Int), x = .tup [.str m, .tup (vs.map Dt.int)] ∧ m ∈ ms ∧ vs.length = rg.length := by
  cases x with
  | tup xs =>
    rcases xs with _ | ⟨m, _ | ⟨y, _ | ⟨c, r⟩⟩⟩
    · cases h
    · cases h
    · cases y with
      | tup zs =>
        have h : (memD ms m && (decide (zs.length = rg.length) && zs.all wholeD)) = true := h
        obtain ⟨h1, h2⟩ := Bool.and_eq_true_iff.mp h
        obtain ⟨h3, h4⟩ := Bool.and_eq_true_iff.mp h2
        obtain ⟨vs, rfl⟩ := all_whole h4
        have h5 := of_decide_eq_true h3
        rw [List.length_map] at h5
        cases m with
        | str m => exact ⟨m, vs, rfl, of_decide_eq_true h1, h5⟩
        | _ => cases h1
      | _ => cases h
    · cases h
  | _ => cases h
theorem stateD_of {ms rg : List Str} {m : Str} {vs : List Int} (hm : m ∈ ms) (hv : vs.length = rg.length) : stateD ms rg (.tup [.str m, .tup (vs.map Dt.int)]) = true := by
  show (decide (m ∈ ms) && (decide ((vs.map Dt.int).length = rg.length) && (vs.map Dt.int).all wholeD)) = true
  rw [decT hm, List.length_map, decT hv, whole_ints] <;> rfl
theorem stOk_of {m : Str} {vs : List Int} (hv : vs.length ≤ 1000) : stOk (.tup [.str m, .tup (vs.map Dt.int)]) := ⟨rfl, noEx_state m vs, fun m y e => by
  cases e
  exact ⟨rfl, rfl, fun ws e => by
    cases e
    exact ⟨by rw [List.length_map]; exact hv, by rw [List.all_map]; exact List.all_eq_true.mpr fun _ _ => rfl⟩⟩⟩
theorem rwOk_of {zs : List Int} (h : zs.length ≤ 1000) : rwOk (.tup (zs.map Dt.int)) := ⟨rfl, noEx_ints zs, fun ws e => by
  cases e
  exact ⟨by rw [List.length_map]; exact h, by rw [List.all_map]; exact List.all_eq_true.mpr fun _ _ => rfl⟩⟩
theorem cmp_ints (zs : List Int) : cmpOk (.tup (zs.map Dt.int)) = true := by
  rw [cmp_tup, List.all_map]
  exact List.all_eq_true.mpr fun _ _ => rfl
theorem eq_ints (zs : List Int) : eqOk (.tup (zs.map Dt.int)) = true := eqOk_of (n := 2) (cmp_ints zs) (dep_tup.mpr fun x hx => by
  obtain ⟨i, _, rfl⟩ := List.mem_map.mp hx
  rw [dep_int] <;> decide)
theorem eqvAll_ints : ∀ a b : List Int, PyData.eqvAll (pyL (a.map Dt.int)) (pyL (b.map Dt.int)) = decide (a = b)
  | [], [] => by simp [pyL, PyData.eqvAll]
  | [], _ :: _ => by simp [pyL, PyData.eqvAll]
  | _ :: _, [] => by simp [pyL, PyData.eqvAll]
  | x :: a, y :: b => by
    have ih := eqvAll_ints a b
    simp only [List.map_cons, pyL, py, PyData.eqvAll]
    rw [ih]
    by_cases h : x = y <;> by_cases h2 : a = b <;> simp [PyData.eqv, h, h2]
theorem eqv_ints (a b : List Int) : PyData.eqv (py (.tup (a.map Dt.int))) (py (.tup (b.map Dt.int))) = decide (a = b) := by
  have h := eqvAll_ints a b
  simp only [py, PyData.eqv]
  exact h
theorem cut_at {n i k : Nat} {zs : List Int} (hl : zs.length = k * (n + 1)) (hi : i < k) : DL.cutD (zs.map Dt.int) (some ((i : Int) * ((n : Int) + 1) + 1)) (some (((i : Int) + 1) * ((n : Int) + 1))) = (atP n zs i).map Dt.int := by
  unfold DL.cutD atP
  rw [List.length_map]
  have e1 : ((i : Int) * ((n : Int) + 1) + 1) = ((i * (n + 1) + 1 : Nat) : Int) := by simp
  have e2 : (((i : Int) + 1) * ((n : Int) + 1)) = (((i + 1) * (n + 1) : Nat) : Int) := by simp
  have h1 : (i + 1) * (n + 1) ≤ zs.length := by rw [hl]; exact Nat.mul_le_mul_right _ hi
  have h2 : i * (n + 1) + 1 ≤ zs.length := by rw [Nat.succ_mul] at h1; omega
  rw [e1, e2, HT.sIx_nat, HT.sIx_nat, Nat.min_eq_left h1, Nat.min_eq_left h2, List.map_take, List.map_drop]
  congr 1
  rw [Nat.succ_mul]
  omega
theorem noLst_ints : ∀ zs : List Int, noLst (.tup (zs.map Dt.int)) = true
  | [] => rfl
  | z :: zs => by
    show (true && noLst (.tup (zs.map Dt.int))) = true
    rw [noLst_ints zs] <;> rfl
theorem rowL_take {ms : List Str} {i : Nat} {m o : Str} {vs : List Int} (hx : ms[i]? = some o) : rowL (ms.take (i + 1)) m vs = rowL (ms.take i) m vs ++ if o = m then 1 :: vs else List.replicate (vs.length + 1) 0 := by
  unfold rowL
  rw [List.take_add_one, hx, List.flatMap_append]
  show _ ++ List.flatMap _ [o] = _
  rw [List.flatMap_cons, List.flatMap_nil, List.append_nil]
theorem atP_len {n i k : Nat} {zs : List Int} (hl : zs.length = k * (n + 1)) (hi : i < k) : (atP n zs i).length = n := by
  unfold atP
  have h1 : (i + 1) * (n + 1) ≤ zs.length := by rw [hl]; exact Nat.mul_le_mul_right _ hi
  rw [Nat.succ_mul] at h1
  rw [List.length_take, List.length_drop]
  omega
theorem int_inj {a b : List Int} (h : a.map Dt.int = b.map Dt.int) : a = b := List.map_inj_right (fun x y e => by injection e) |>.mp h
theorem state_inj {o m : Str} {a b : List Int} (h : Dt.tup [.str o, .tup (a.map Dt.int)] = Dt.tup [.str m, .tup (b.map Dt.int)]) : m = o ∧ b = a := by
  injection h with h
  injection h with h1 h2
  injection h1 with h1
  injection h2 with h2 _
  injection h2 with h2
  exact ⟨h1.symm, (int_inj h2).symm⟩
theorem okSL_map {α : Type} {f : α → Dt} (h : ∀ a, okS (f a) = true) : ∀ l : List α, okSL (l.map f) = true
  | [] => rfl
  | a :: l => by
    show (okS (f a) && okSL (l.map f)) = true
    rw [h a, okSL_map h l] <;> rfl
theorem okS_ints {zs : List Int} (h : zs.length ≤ 100000) : okS (.tup (zs.map Dt.int)) = true := by
  show (decide ((zs.map Dt.int).length ≤ 100000) && okSL (zs.map Dt.int)) = true
  rw [decT (by rw [List.length_map]; exact h), okSL_map (fun _ => rfl)] <;> rfl
theorem dep_ints (zs : List Int) : dep (.tup (zs.map Dt.int)) ≤ 2 := dep_tup.mpr fun x hx => by
  obtain ⟨i, _, rfl⟩ := List.mem_map.mp hx
  rw [dep_int] <;> decide
theorem okS_two {a c : Dt} (h : okS a = true) (g : okS c = true) : okS (.lst [a, c]) = true := by
  show (decide (2 ≤ 100000) && (okS a && (okS c && true))) = true
  rw [h, g] <;> rfl
theorem okT_two {a c : Dt} (h : okS a = true) (g : okS c = true) : okS (.tup [a, c]) = true := by
  show (decide (2 ≤ 100000) && (okS a && (okS c && true))) = true
  rw [h, g] <;> rfl
theorem dep_two {a c : Dt} {n : Nat} (h : dep a ≤ n) (g : dep c ≤ n) : dep (.lst [a, c]) ≤ n + 1 := dep_lst.mpr fun x hx => by
  simp only [List.mem_cons, List.not_mem_nil, or_false] at hx
  rcases hx with rfl | rfl
  · exact h
  · exact g
theorem depT_two {a c : Dt} {n : Nat} (h : dep a ≤ n) (g : dep c ≤ n) : dep (.tup [a, c]) ≤ n + 1 := dep_tup.mpr fun x hx => by
  simp only [List.mem_cons, List.not_mem_nil, or_false] at hx
  rcases hx with rfl | rfl
  · exact h
  · exact g
theorem rowB_no {ms rg : List Str} {zs : List Int} (h : zs.length ≠ ms.length * (rg.length + 1)) : rowB ms rg (.tup (zs.map Dt.int)) = false := by
  show (decide ((zs.map Dt.int).length = ms.length * (rg.length + 1)) && (zs.map Dt.int).all wholeD) = false
  rw [List.length_map, decF h] <;> rfl
theorem zeros_flat : ∀ k : Nat, (List.replicate k [Dt.int 0]).flatten = (List.replicate k 0).map Dt.int
  | 0 => rfl
  | k + 1 => by
    rw [List.replicate_succ, List.flatten_cons, zeros_flat k, List.replicate_succ, List.map_cons] <;> rfl
end Pf

namespace Pf
open PySem PySem.Spec PyProof.Rows L2 DL
/-! which rows are rows of states -/
theorem flat_at {f : Str → List Int} {K : Nat} (hf : ∀ o, (f o).length = K) (hK : 0 < K) : ∀ (l : List Str) (j : Nat), (l.flatMap f)[j]? = (l[j / K]?).bind fun o => (f o)[j % K]?
  | [], j => by simp
  | a :: l, j => by
    rw [List.flatMap_cons]
    by_cases h : j < K
    · rw [List.getElem?_append_left (by rw [hf]; exact h), Nat.div_eq_of_lt h, Nat.mod_eq_of_lt h]
      rfl
    · have h2 : K ≤ j := Nat.le_of_not_lt h
      rw [List.getElem?_append_right (by rw [hf]; exact h2), hf, flat_at hf hK l, Nat.div_eq_sub_div hK h2, Nat.mod_eq_sub_mod h2]
      rfl
theorem hits_iff {ms : List Str} {n k : Nat} {o : Str} {zs : List Int} (nd : ms.Nodup) (hk : ms[k]? = some o) (hz : zs.length = ms.length * (n + 1)) :
    hits ms n zs (o, k) = true ↔ zs[k * (n + 1)]? = some 1 ∧ ∀ j, j < zs.length → j / (n + 1) ≠ k → zs[j]? = some 0 := by
  have hkl := (List.getElem?_eq_some_iff.mp hk).1
  have hal := atP_len hz hkl
  have key : ∀ j, j < zs.length → (rowL ms o (atP n zs k))[j]? = if j / (n + 1) = k then (if j % (n + 1) = 0 then some 1 else zs[j]?) else some 0 := fun j hj => by
    unfold rowL
    rw [flat_at (K := n + 1) (fun o' => by
      by_cases h : o' = o
      · rw [if_pos h, List.length_cons, hal]
      · rw [if_neg h, List.length_replicate, hal]) (Nat.succ_pos n)]
    have hjk : j / (n + 1) < ms.length := (Nat.div_lt_iff_lt_mul (Nat.succ_pos n)).mpr (hz ▸ hj)
    obtain ⟨o', ho⟩ : ∃ o', ms[j / (n + 1)]? = some o' := ⟨_, List.getElem?_eq_getElem hjk⟩
    rw [ho]
    show (if o' = o then 1 :: atP n zs k else List.replicate ((atP n zs k).length + 1) 0)[j % (n + 1)]? = _
    have hmod : j % (n + 1) < n + 1 := Nat.mod_lt j (Nat.succ_pos n)
    by_cases h : j / (n + 1) = k
    · have e : o' = o := by
        rw [h, hk] at ho
        exact (Option.some.inj ho).symm
      rw [if_pos e, if_pos h]
      by_cases h0 : j % (n + 1) = 0
      · rw [if_pos h0, h0]; rfl
      · rw [if_neg h0]
        obtain ⟨r, hr⟩ := Nat.exists_eq_succ_of_ne_zero h0
        rw [hr]
        show (atP n zs k)[r]? = _
        unfold atP
        rw [List.getElem?_take, if_pos (by omega), List.getElem?_drop]
        have hd := Nat.div_add_mod j (n + 1)
        rw [h, Nat.mul_comm] at hd
        congr 1
        omega
    · have e : ¬ o' = o := fun e => h ((List.getElem?_inj hjk nd).mp (by rw [ho, hk, e]))
      rw [if_neg e, if_neg h, List.getElem?_replicate, if_pos (by omega)]
  have hlen : (rowL ms o (atP n zs k)).length = zs.length := by rw [rowL_len, hal, hz]
  have hkK : k * (n + 1) < zs.length := by
    rw [hz]
    exact Nat.mul_lt_mul_of_pos_right hkl (Nat.succ_pos n)
  have kd : k * (n + 1) / (n + 1) = k := Nat.mul_div_cancel k (Nat.succ_pos n)
  unfold hits
  rw [decide_eq_true_iff]
  show rowL ms o (atP n zs k) = zs ↔ _
  constructor
  · intro e
    refine ⟨?_, fun j hj hne => ?_⟩
    · have q := key _ hkK
      rw [e, if_pos kd, if_pos (Nat.mul_mod_left k (n + 1))] at q
      exact q
    · have q := key j hj
      rw [e, if_neg hne] at q
      exact q
  · rintro ⟨h1, h2⟩
    refine List.ext_getElem? fun j => ?_
    by_cases hj : j < zs.length
    · rw [key j hj]
      by_cases h : j / (n + 1) = k
      · rw [if_pos h]
        by_cases h0 : j % (n + 1) = 0
        · rw [if_pos h0]
          have hd := Nat.div_add_mod j (n + 1)
          rw [h, h0, Nat.mul_comm] at hd
          rw [← hd, Nat.add_zero, h1]
        · rw [if_neg h0]
      · rw [if_neg h, h2 j hj h]
    · rw [List.getElem?_eq_none (by omega), List.getElem?_eq_none (by omega)]
theorem st_no {ms : List Str} {n : Nat} {zs : List Int} (nd : ms.Nodup) (hz : zs.length = ms.length * (n + 1))
    (h : ∀ k, k < ms.length → zs[k * (n + 1)]? = some 1 → ∃ j, j < zs.length ∧ j / (n + 1) ≠ k ∧ zs[j]? ≠ some 0) : stateOf ms n zs = none := by
  unfold stateOf
  rw [find_no fun q hq => ?_]; rfl
  obtain ⟨o, k⟩ := q
  have hk := zip_at hq
  cases e : hits ms n zs (o, k) with
  | false => rfl
  | true =>
    obtain ⟨h1, h2⟩ := (hits_iff nd hk hz).mp e
    obtain ⟨j, h3, h4, h5⟩ := h k (List.getElem?_eq_some_iff.mp hk).1 h1
    exact absurd (h2 j h3 h4) h5
theorem st_yes {ms : List Str} {n k : Nat} {o : Str} {zs : List Int} (nd : ms.Nodup) (hz : zs.length = ms.length * (n + 1)) (hk : ms[k]? = some o)
    (h1 : zs[k * (n + 1)]? = some 1) (h2 : ∀ j, j < zs.length → j / (n + 1) ≠ k → zs[j]? = some 0) : stateOf ms n zs = some (o, atP n zs k) := by
  unfold stateOf
  cases e : ms.zipIdx.find? (hits ms n zs) with
  | none =>
    have q := List.find?_eq_none.mp e (o, k) (List.mem_zipIdx_iff_getElem?.mpr hk)
    exact absurd ((hits_iff nd hk hz).mpr ⟨h1, h2⟩) q
  | some p =>
    obtain ⟨o', k'⟩ := p
    have hk' := zip_at (List.mem_of_find?_eq_some e)
    have t := List.find?_some e
    obtain ⟨h3, h4⟩ := (hits_iff nd hk' hz).mp t
    have hkl' := (List.getElem?_eq_some_iff.mp hk').1
    have kd : k' * (n + 1) / (n + 1) = k' := Nat.mul_div_cancel k' (Nat.succ_pos n)
    have ek : k' = k := Classical.byContradiction fun hne => by
      have := h2 (k' * (n + 1)) (by rw [hz]; exact Nat.mul_lt_mul_of_pos_right hkl' (Nat.succ_pos n)) (by rw [kd]; exact hne)
      rw [h3] at this
      exact absurd (Option.some.inj this) (by decide)
    subst ek
    have eo : o' = o := Option.some.inj (hk'.symm.trans hk)
    subst eo
    rfl

theorem cutI_pre {zs : List Int} {k : Nat} (h : k ≤ zs.length) : DL.cutD (zs.map Dt.int) none (some (k : Int)) = (zs.take k).map Dt.int := by
  unfold DL.cutD
  rw [List.length_map, HT.sIx_nat, Nat.min_eq_left h, List.map_take]
  show ((zs.map Dt.int).drop 0).take (k - 0) = _
  rw [List.drop_zero, Nat.sub_zero]
theorem cutI_suf {zs : List Int} {k : Nat} (h : k + 1 ≤ zs.length) : DL.cutD (zs.map Dt.int) (some ((k : Int) + 1)) none = (zs.drop (k + 1)).map Dt.int := by
  unfold DL.cutD
  rw [show ((k : Int) + 1) = ((k + 1 : Nat) : Int) from rfl, List.length_map, HT.sIx_nat, Nat.min_eq_left h, List.map_drop]
  show ((zs.map Dt.int).drop (k + 1)).take (zs.length - (k + 1)) = _
  rw [List.take_of_length_le (by rw [List.length_drop, List.length_map] <;> exact Nat.le_refl _)]
theorem rngN (n : Nat) : rngD 0 ((n : Int)).toNat = (List.range n).map fun j => Dt.int (j : Nat) := by
  unfold rngD
  rw [Int.toNat_natCast]
  simp only [Int.zero_add]
theorem idx_nat (j n : Nat) : ((j : Nat) : Int) * (1 + (n : Int)) = ((j * (n + 1) : Nat) : Int) := by
  rw [Int.natCast_mul, Int.natCast_add, Int.add_comm]; rfl
theorem idx_lt {j n m : Nat} (h : j < m) : j * (n + 1) < m * (n + 1) := Nat.mul_lt_mul_of_pos_right h (Nat.succ_pos n)
def lateL (zs : List Int) (k : Nat) (d : Int) : List Int := zs.take k ++ [d] ++ zs.drop (k + 1)
theorem lateL_len {zs : List Int} {k : Nat} {d : Int} (h : k < zs.length) : (lateL zs k d).length = zs.length := by
  unfold lateL
  simp only [List.length_append, List.length_take, List.length_drop, List.length_singleton]
  omega

theorem eq_intsL (zs : List Int) : eqOk (.lst (zs.map Dt.int)) = true := eqOk_of (n := 2) (by
  rw [cmp_lst, List.all_map]
  exact List.all_eq_true.mpr fun _ _ => rfl) (dep_lst.mpr fun x hx => by
  obtain ⟨i, _, rfl⟩ := List.mem_map.mp hx
  rw [dep_int] <;> decide)
theorem eqv_intsL (a b : List Int) : PyData.eqv (py (.lst (a.map Dt.int))) (py (.lst (b.map Dt.int))) = decide (a = b) := by
  have h := eqvAll_ints a b
  simp only [py, PyData.eqv]
  exact h
/-- the places of the ones that lead, what stands elsewhere, and whether that tells a row of no state -/
def headsL (ms : List Str) (n : Nat) (zs : List Int) : List Nat := (List.range ms.length).filter fun j => decide (zs[j * (n + 1)]? = some 1)
def restP (n : Nat) : List Nat → Nat → Bool
  | [], _ => true
  | h :: _, j => decide (j / (n + 1) ≠ h)
def restL (n : Nat) (zs : List Int) (hs : List Nat) : List Int := ((List.range zs.length).filter (restP n hs)).map fun j => zs.getD j 0
def badL (n : Nat) (zs : List Int) (hs : List Nat) : Bool := decide (hs.length ≠ 1) || decide ((restL n zs hs).filter (fun z => decide (z ≠ 0)) ≠ [])
theorem heads_mem {ms : List Str} {n : Nat} {zs : List Int} {k : Nat} : k ∈ headsL ms n zs ↔ k < ms.length ∧ zs[k * (n + 1)]? = some 1 := by
  unfold headsL
  rw [List.mem_filter, List.mem_range, decide_eq_true_iff]
theorem bad_no {ms : List Str} {n : Nat} {zs : List Int} (nd : ms.Nodup) (hz : zs.length = ms.length * (n + 1)) (hb : badL n zs (headsL ms n zs) = true) : stateOf ms n zs = none := by
  refine st_no nd hz fun k hk h1 => ?_
  have hm : k ∈ headsL ms n zs := heads_mem.mpr ⟨hk, h1⟩
  have hnd : (headsL ms n zs).Nodup := List.nodup_range.filter _
  rcases Bool.or_eq_true_iff.mp hb with hb | hb
  · have hne := of_decide_eq_true hb
    obtain ⟨k', hk', hne'⟩ : ∃ k', k' ∈ headsL ms n zs ∧ k' ≠ k := by
      generalize headsL ms n zs = hs at hm hnd hne ⊢
      match hs, hm, hnd, hne with
      | [a], _, _, hne => exact absurd rfl hne
      | a :: c :: r, _, hnd, _ =>
        have hac : a ≠ c := fun e => (List.nodup_cons.mp hnd).1 (by rw [e]; exact List.mem_cons_self)
        by_cases e : a = k
        · exact ⟨c, List.mem_cons_of_mem _ List.mem_cons_self, fun e2 => hac (e.trans e2.symm)⟩
        · exact ⟨a, List.mem_cons_self, e⟩
    obtain ⟨h2, h3⟩ := heads_mem.mp hk'
    refine ⟨k' * (n + 1), by rw [hz]; exact idx_lt h2, by rw [Nat.mul_div_cancel k' (Nat.succ_pos n)]; exact hne', by rw [h3]; intro e; exact absurd (Option.some.inj e) (by decide)⟩
  · have hne := of_decide_eq_true hb
    obtain ⟨z, hz1⟩ := List.exists_mem_of_ne_nil _ hne
    obtain ⟨hz2, hz3⟩ := List.mem_filter.mp hz1
    obtain ⟨j, hj, rfl⟩ := List.mem_map.mp hz2
    obtain ⟨hj1, hj2⟩ := List.mem_filter.mp hj
    have hjl := List.mem_range.mp hj1
    have hz4 := of_decide_eq_true hz3
    by_cases hjk : j / (n + 1) = k
    · cases e : headsL ms n zs with
      | nil => rw [e] at hm; exact absurd hm List.not_mem_nil
      | cons a r =>
        rw [e] at hj2
        have ha : j / (n + 1) ≠ a := of_decide_eq_true hj2
        obtain ⟨h2, h3⟩ := heads_mem.mp (show a ∈ headsL ms n zs by rw [e]; exact List.mem_cons_self)
        exact ⟨a * (n + 1), by rw [hz]; exact idx_lt h2, by rw [Nat.mul_div_cancel a (Nat.succ_pos n)]; exact fun e3 => ha (hjk.trans e3.symm), by rw [h3]; intro e; exact absurd (Option.some.inj e) (by decide)⟩
    · refine ⟨j, hjl, hjk, fun e => hz4 ?_⟩
      rw [List.getD_eq_getElem?_getD, e] <;> rfl
theorem bad_yes {ms : List Str} {n : Nat} {zs : List Int} (nd : ms.Nodup) (hz : zs.length = ms.length * (n + 1)) (hb : badL n zs (headsL ms n zs) = false) : ∃ h o, headsL ms n zs = [h] ∧ ms[h]? = some o ∧ stateOf ms n zs = some (o, atP n zs h) := by
  obtain ⟨b1, b2⟩ := Bool.or_eq_false_iff.mp hb
  have b1 := Classical.not_not.mp (of_decide_eq_false b1)
  have b2 := Classical.not_not.mp (of_decide_eq_false b2)
  obtain ⟨h, e⟩ := List.length_eq_one_iff.mp b1
  obtain ⟨h2, h3⟩ := heads_mem.mp (show h ∈ headsL ms n zs by rw [e]; exact List.mem_cons_self)
  refine ⟨h, ms[h], e, List.getElem?_eq_getElem h2, st_yes nd hz (List.getElem?_eq_getElem h2) h3 fun j hj hne => ?_⟩
  refine Classical.byContradiction fun hc => ?_
  have hd : zs.getD j 0 ∈ (restL n zs (headsL ms n zs)).filter (fun z => decide (z ≠ 0)) := by
    refine List.mem_filter.mpr ⟨List.mem_map.mpr ⟨j, List.mem_filter.mpr ⟨List.mem_range.mpr hj, ?_⟩, rfl⟩, decide_eq_true fun e2 => hc ?_⟩
    · rw [e]
      exact decide_eq_true hne
    · rw [List.getD_eq_getElem?_getD, List.getElem?_eq_getElem hj] at e2
      rw [List.getElem?_eq_getElem hj]
      exact congrArg some e2
  rw [b2] at hd
  exact absurd hd List.not_mem_nil
def midD (ms : List Str) (n : Nat) (zs : List Int) : List Nat → Dt
  | h :: _ => .tup [.str "", .tup [.str (ms.getD h ""), .tup ((atP n zs h).map Dt.int)]]
  | [] => .tup [.str "", .non]
theorem cut_at2 {n i k : Nat} {zs : List Int} (hl : zs.length = k * (n + 1)) (hi : i < k) : DL.cutD (zs.map Dt.int) (some ((i : Int) * (1 + (n : Int)) + 1)) (some ((i : Int) * (1 + (n : Int)) + (1 + (n : Int)))) = (atP n zs i).map Dt.int := by
  rw [← cut_at hl hi, Int.add_comm 1 (n : Int), Int.add_mul, Int.one_mul]
theorem div_nat (j n : Nat) : ((j : Nat) : Int) / (1 + (n : Int)) = ((j / (n + 1) : Nat) : Int) := by
  rw [Int.add_comm]; exact (Int.natCast_ediv j (n + 1)).symm
/-- what is due: the state, or the error -/
def dueD (n : Nat) (zs : List Int) (ms : List Str) : Dt := match stateOf ms n zs with
  | some (m, vs) => .tup [.str "", .tup [.str m, .tup (vs.map Dt.int)]]
  | none => .tup [.str "InvalidRow", .tup []]
theorem noExL_app : ∀ {xs ys : List Dt}, noExL xs = true → noExL ys = true → noExL (xs ++ ys) = true
  | [], _, _, h => h
  | x :: xs, ys, h, g => by
    obtain ⟨h1, h2⟩ := Bool.and_eq_true_iff.mp (show (noEx x && noExL xs) = true from h)
    show (noEx x && noExL (xs ++ ys)) = true
    rw [h1, noExL_app h2 g] <;> rfl
theorem cut_one {zs : List Int} (h : 1 ≤ zs.length) : DL.cutD (zs.map Dt.int) (some 1) none = (zs.drop 1).map Dt.int := cutI_suf (k := 0) h
theorem mid_odd {ms rg : List Str} {a c : List Int} {y : Dt} (hy : known y = true) (hn : noEx y = true) (hw : wholeD y = false) (hl : a.length + c.length ≤ 999) : rwOk (.tup (a.map Dt.int ++ [y] ++ c.map Dt.int)) ∧ rowB ms rg (.tup (a.map Dt.int ++ [y] ++ c.map Dt.int)) = false := by
  refine ⟨⟨rfl, ?_, fun ws e => ?_⟩, ?_⟩
  · show noExL _ = true
    exact noExL_app (noExL_app (noEx_ints a) (by show (noEx y && true) = true; rw [hn] <;> rfl)) (noEx_ints c)
  · cases e
    refine ⟨by simp only [List.length_append, List.length_map, List.length_singleton]; omega, ?_⟩
    rw [List.all_append, List.all_append, List.all_map, List.all_map]
    simp only [List.all_cons, List.all_nil, hy, Bool.and_true, Bool.and_eq_true]
    exact ⟨List.all_eq_true.mpr fun _ _ => rfl, List.all_eq_true.mpr fun _ _ => rfl⟩
  · show (decide (_ = _) && (a.map Dt.int ++ [y] ++ c.map Dt.int).all wholeD) = false
    rw [List.all_append, List.all_append]
    simp only [List.all_cons, List.all_nil, hw, Bool.and_false, Bool.false_and]
theorem odd_ok {ms rg : List Str} {row : List Int} {k : Nat} {x : Dt} (hl : row.length = ms.length * (rg.length + 1)) (hk : k < row.length) (h2 : row.length ≤ 100)
    (hx : x ∈ [.non, .int 3, .lst (row.map Dt.int), .tup ((row.drop 1).map Dt.int), .tup (row.map Dt.int ++ [.int 0]), .tup ((row.take k).map Dt.int ++ [.non] ++ (row.drop (k + 1)).map Dt.int), .str "row", .tup ((row.take k).map Dt.int ++ [.bl true] ++ (row.drop (k + 1)).map Dt.int), .tup ((row.take k).map Dt.int ++ [.str "1"] ++ (row.drop (k + 1)).map Dt.int)]) : rwOk x ∧ rowB ms rg x = false := by
  have hm : ∀ y : Dt, known y = true → noEx y = true → wholeD y = false → rwOk (.tup ((row.take k).map Dt.int ++ [y] ++ (row.drop (k + 1)).map Dt.int)) ∧ rowB ms rg (.tup ((row.take k).map Dt.int ++ [y] ++ (row.drop (k + 1)).map Dt.int)) = false := fun y h1 h3 h4 => mid_odd h1 h3 h4 (by rw [List.length_take, List.length_drop]; omega)
  simp only [List.mem_cons, List.not_mem_nil, or_false] at hx
  rcases hx with rfl | rfl | rfl | rfl | rfl | rfl | rfl | rfl | rfl
  · exact ⟨⟨rfl, rfl, fun _ e => by cases e⟩, rfl⟩
  · exact ⟨⟨rfl, rfl, fun _ e => by cases e⟩, rfl⟩
  · exact ⟨⟨rfl, noEx_ints row, fun _ e => by cases e⟩, rfl⟩
  · refine ⟨rwOk_of (by rw [List.length_drop]; omega), ?_⟩
    show (decide (((row.drop 1).map Dt.int).length = _) && _) = false
    rw [decF (by rw [List.length_map, List.length_drop]; omega)] <;> rfl
  · rw [show row.map Dt.int ++ [.int 0] = (row ++ [0]).map Dt.int from by rw [List.map_append] <;> rfl]
    refine ⟨rwOk_of (by rw [List.length_append, List.length_singleton]; omega), ?_⟩
    show (decide (((row ++ [0]).map Dt.int).length = _) && _) = false
    rw [decF (by rw [List.length_map, List.length_append, List.length_singleton]; omega)] <;> rfl
  · exact hm _ rfl rfl rfl
  · exact ⟨⟨rfl, rfl, fun _ e => by cases e⟩, rfl⟩
  · exact hm _ rfl rfl rfl
  · exact hm _ rfl rfl rfl
theorem atP_le {n i : Nat} {zs : List Int} : (atP n zs i).length ≤ n := by
  unfold atP
  rw [List.length_take]
  exact Nat.min_le_left _ _
theorem state_due {ms : List Str} {n : Nat} {zs : List Int} {m : Str} {vs : List Int} (h : stateOf ms n zs = some (m, vs)) : m ∈ ms ∧ vs.length ≤ n := by
  unfold stateOf at h
  cases e : ms.zipIdx.find? (hits ms n zs) with
  | none => rw [e] at h; cases h
  | some p =>
    rw [e] at h
    cases h
    exact ⟨List.mem_of_getElem? (zip_at (List.mem_of_find?_eq_some e)), atP_le⟩
theorem due_ok {ms : List Str} {n : Nat} {zs : List Int} (hn : n ≤ 1000) (hp : ∀ m, m ∈ ms → okS (.str m) = true) : okS (dueD n zs ms) = true ∧ dep (dueD n zs ms) ≤ 4 ∧ noEx (dueD n zs ms) = true := by
  unfold dueD
  cases e : stateOf ms n zs with
  | none => exact ⟨by decide +kernel, by decide +kernel, rfl⟩
  | some q =>
    obtain ⟨m, vs⟩ := q
    obtain ⟨h1, h2⟩ := state_due e
    exact ⟨okT_two (by decide +kernel) (okT_two (hp m h1) (okS_ints (by omega))), depT_two (by rw [dep_str]; decide) (depT_two (by rw [dep_str]; decide) (dep_ints vs)), by
      show (true && (noEx (.tup [.str m, .tup (vs.map Dt.int)]) && true)) = true
      rw [noEx_state] <;> rfl⟩
end Pf
namespace DL
open PySem PySem.Spec PyProof.Rows L2
@[reducible] def dCutE (T : DT) : DT := fun γ P => Word (∃ v, T γ (fun y => y = v) ∧ P v)
theorem x_cutE {X : Cx} {b : Bg} {e : Expr} {T : DT} (h : XE X b e T) : XE X b e (dCutE T) := by
  obtain ⟨_, h1, h2⟩ := h
  refine ⟨_, h1, fun P n t Q q => ?_⟩
  obtain ⟨v, t1, t2⟩ := t
  exact h2 _ n t1 _ fun u d F1 H1 x1 r1 t3 => q u d F1 H1 x1 r1 (by rw [t3]; exact t2)
theorem got_mono {P : Program} {w : World} {K : PySem.W.Frag} {mg : Str → Option Value} {base : Heap} {b : Bg} {k : Nat} {xs : List Value} {cs : Codes} {ds : List Dt} {D Q : Dt → Prop} (h : ∀ d, D d → Q d) (g : gotT P w K mg base b k xs cs ds D) : gotT P w K mg base b k xs cs ds Q := by
  obtain ⟨L, cl, e, c⟩ := g
  exact ⟨L, cl, e, c.mono (fun d hd => h _ hd) fun x ⟨hm, code, ns, zs, e1, e2, e3, e4, e5, hq⟩ => ⟨hm, code, ns, zs, e1, e2, e3, e4, e5, h _ hq⟩⟩
theorem why_mono {P : Program} {w : World} {K : PySem.W.Frag} {mg : Str → Option Value} {base : Heap} {b : Bg} {k : Nat} {xs : List Value} {cs : Codes} {ds : List Dt} {D Q : Dt → Prop} (h : ∀ d, D d → Q d) (g : whyT P w K mg base b k xs cs ds D) : whyT P w K mg base b k xs cs ds Q := by
  obtain ⟨L, cl, e, c⟩ := g
  exact ⟨L, cl, e, c.mono (fun d hd => h _ hd) fun x ⟨hm, code, ns, zs, e1, e2, e3, e4, e5, hq⟩ => ⟨hm, code, ns, zs, e1, e2, e3, e4, e5, h _ hq⟩⟩
end DL

namespace ZN
open PySem PySem.Spec PyProof.Rows L2
/-! ### list(zip(a, c, ..)): each turn's tuple is new -/
theorem zip_has_no_len : typeLookup (.type "zip") "__len__" = pure none := by
  rw [typeLookup_type, builtinLookup_eq_fast]
  kernel_rfl
theorem zip_has_no_hint : typeLookup (.type "zip") "__length_hint__" = pure none := by
  rw [typeLookup_type, builtinLookup_eq_fast]
  kernel_rfl
abbrev lsO (acc : Array Value) (c : Nat) : Obj := { cls := .type "list", dict := none, data := .seq acc c, slots := #[] }
theorem fp_upd {X : Cx} {pins : List (Addr × Obj)} {H : Hp} {b T : Addr} {o : HO} (h : FpOk X pins H b) (ne : b ≠ T) : FpOk X pins (upd H T o) b := ⟨(upd_ne ne).trans h.1, h.2⟩
section
variable {X : Cx} {pins : List (Addr × Obj)} {σ : L2.St} {as : List (Bool × Addr)} {rows : List (List V)} {m B S : Nat} {A : Around} {W : Nat → List Addr → Hp → Prop} {res : Value} {R : Result → Shared → Prop}
abbrev lsF (as : List (Bool × Addr)) : Nat → Bool × Addr := fun j => as.getD j (false, 0)
theorem zip_loop (hl : as.length = rows.length) (h0 : 0 < rows.length) (h1 : rows.length ≤ 100000) (hm : ∀ (j : Nat) (xs : List V), rows[j]? = some xs → xs.length = m) (hmz : m ≤ 100000) (hB : ∀ j, j < rows.length → (lsF as j).2 < B) (hh : A.in1.handled = none) (hS : B + rows.length + 2 < S)
    (hW : ∀ (i : Nat) (Ts : List Addr) (H : Hp) (T : Addr), i < m → W i Ts H → H T = none → H S = none → T ≠ S → W (i + 1) (Ts ++ [T]) (upd H T (.tup (rows.map fun xs => xs.getD i .non))))
    (hrow : ∀ (i : Nat) (Ts : List Addr) (H : Hp), W i Ts H → ∀ (j : Nat) (a : Bool × Addr) (xs : List V), as[j]? = some a → rows[j]? = some xs → SqB X.K H a xs) :
    ∀ (k i : Nat) (s : Shared) (H : Hp) (Ts : List Addr), m - i = k → i ≤ m → Inv X pins σ H s → (∀ b ∈ fps B rows.length, FpOk X pins H b) → FpOk X pins H S → ZipAt B rows.length i (lsF as) s.heap → (∃ c, s.heap.get? S = some (lsO (Ts.map Value.ref).toArray c)) → Ts.length = i → W i Ts H →
    (∀ (s' : Shared) (H' : Hp) (Ts' : List Addr), Inv X pins σ H' s' → (∃ c, s'.heap.get? S = some (lsO (Ts'.map Value.ref).toArray c)) → Ts'.length = m → W m Ts' H' → FpOk X pins H' S → R (.ok (.ret res)) s') →
    codeAny (model X.prog X.w) A (.builtin "list.extend.loop" ⟨[.ref S, .ref (B + rows.length + 2), res], []⟩) R s := by
  intro k
  induction k with
  | zero =>
    intro i s H Ts hk hi I hf hfS st ⟨c, hSo⟩ hTs w hR
    obtain rfl : i = m := by omega
    refine codeAny_builtin F.entry_extend_loop ?_
    rw [Around.under_plainId F.plain_extend_loop _]
    show wpAny _ A.in1 (pyNext (.ref _) >>= _) _ _ s
    obtain ⟨its, hits⟩ := rows_at I hl (hrow _ _ _ w)
    have hx : (its 0).toArray[i]? = none := by
      have e := (hits 0 h0).1.length
      rw [List.getD_eq_getElem?_getD, List.getElem?_eq_getElem h0] at e
      have e2 := hm 0 _ (List.getElem?_eq_getElem h0)
      have e3 : (rows[0] : List V).length = (its 0).length := e
      rw [List.getElem?_toArray]
      exact List.getElem?_eq_none (by omega)
    refine wpAny_bind (pyNext_end hh h0 st (fun j hj => (hits j hj).2) hB hx fun h' hk2 => ?_)
    exact wpAny_pure (hR _ H Ts (I.turnedL (t' := s.toks) (ch := fps B rows.length) (fun c o hb q => hk2 c o (fps_out hb) q) hf) ⟨c, hk2 S _ (.inr hS) hSo⟩ hTs w hfS)
  | succ k ih =>
    intro i s H Ts hk hi I hf hfS st ⟨c, hSo⟩ hTs w hR
    have hlt : i < m := by omega
    refine codeAny_builtin F.entry_extend_loop ?_
    rw [Around.under_plainId F.plain_extend_loop _]
    show wpAny _ A.in1 (pyNext (.ref _) >>= _) _ _ s
    obtain ⟨its, hits⟩ := rows_at I hl (hrow _ _ _ w)
    have hlen : ∀ j, j < rows.length → (its j).length = m := fun j hj => by
      rw [← (hits j hj).1.length, List.getD_eq_getElem?_getD, List.getElem?_eq_getElem hj]
      exact hm j _ (List.getElem?_eq_getElem hj)
    have hx : ∀ j, j < rows.length → (its j).toArray[i]? = some ((its j).getD i .none) := fun j hj => by
      have := hlen j hj
      rw [List.getElem?_toArray, List.getD_eq_getElem?_getD, List.getElem?_eq_getElem (by omega)] <;> rfl
    refine wpAny_bind (pyNext_item h0 h1 st (fun j hj => (hits j hj).2) hB hx fun h' z' hT hsz hk2 => ?_)
    have new : ObjOk X.prog X.w (upd H s.heap.objs.size (.tup (rows.map fun xs => xs.getD i .non))) h' s.heap.objs.size (.tup (rows.map fun xs => xs.getD i .non)) := by
      refine ⟨by rw [List.length_map]; show _ ≤ 2 ^ 24; omega, _, vals_map (g := fun j => (its j).getD i .none) fun j xs hj => ?_, ⟨_, hT, rfl, _, rfl⟩⟩
      have hjl : j < rows.length := (List.getElem?_eq_some_iff.mp hj).1
      have rv := (hits j hjl).1
      rw [List.getD_eq_getElem?_getD, hj] at rv
      have hi2 : i < xs.length := by rw [hm j xs hj]; exact hlt
      obtain ⟨u, hu, ru⟩ := Vals.get rv (List.getElem?_eq_getElem hi2)
      rw [List.getD_eq_getElem?_getD, List.getElem?_eq_getElem hi2, List.getD_eq_getElem?_getD, hu]
      exact ru
    have I1 : Inv X pins σ (upd H s.heap.objs.size (.tup (rows.map fun xs => xs.getD i .non))) { s with heap := h' } :=
      I.turnedNew (t' := s.toks) (ch := fps B rows.length) (fun c o hb q => hk2 c o (fps_out hb) q) hf (Nat.le_refl _) new
    have hSlt : S < s.heap.objs.size := Heap.lt_size hSo
    have hfS1 := fp_upd (o := .tup (rows.map fun xs => xs.getD i .non)) hfS (Nat.ne_of_lt hSlt)
    have hS' := hk2 S _ (.inr hS) hSo
    show wpAny _ A.in1 (updateSeq S (·.push (.ref s.heap.objs.size)) >>= _) _ _ _
    refine wpAny_bind ?_
    refine wpAny_updateSeq hS' rfl (wpAny_pure ⟨plainId_quiet F.plain_extend_loop _, ih (i + 1) _ (upd H s.heap.objs.size (.tup (rows.map fun xs => xs.getD i .non))) (Ts ++ [s.heap.objs.size]) (by omega) hlt
      (I1.turnedL (t' := s.toks) (ch := [S]) (fun b o hb e => ?_) (fun b hb => ?_)) (fun b hb => fp_upd (hf b hb) ?_) hfS1 (z'.keep fun b b1 b2 o e => ?_) ?_ (by rw [List.length_append, hTs] <;> rfl)
      (hW i Ts H _ hlt w (I.hok.fresh (Nat.le_refl _)) hfS.1 (Nat.ne_of_gt hSlt)) hR⟩) ?_ ?_
    · exact (Heap.get?_update_other _ _ fun h : S = b => hb (by rw [h]; exact List.mem_singleton.mpr rfl)).trans e
    · rw [List.mem_singleton.mp hb]; exact hfS1
    · exact Nat.ne_of_lt (fps_lt hb (Nat.lt_trans hS hSlt))
    · exact (Heap.get?_update_other _ _ fun h : S = b => absurd hS (by omega)).trans e
    · have := Heap.get?_update_self (Obj.mapSeq (·.push (Value.ref s.heap.objs.size))) hS' rfl
      exact ⟨_, by
        refine this.trans ?_
        rw [List.map_append]
        simp [Obj.mapSeq, lsO]
        rfl⟩
    · show (Ts.map Value.ref).toArray.size ≤ _
      rw [List.size_toArray, List.length_map, sizeLine_eq]; omega
    · show ((Ts.map Value.ref).toArray.push _).size ≤ _
      rw [Array.size_push, List.size_toArray, List.length_map]
      have := sizeLine_eq
      omega
theorem zip_hint {s : Shared} {z : Addr} {M : Around} {prog : Program} {w : World} {E : Value → Shared → Prop} {Q : Bool → Shared → Prop} (hT : s.TypeIs (.ref z) "zip") (h : Q true s) : wpAny (model prog w) M (Builtin.List.listLengthHint (.ref z)) Q E s := by
  unfold Builtin.List.listLengthHint
  refine wpAny_bind (wpAny_specialOf hT zip_has_no_len ?_)
  show wpAny _ M (specialOf (Value.ref z) (Str.ofString "__length_hint__") >>= _) _ _ _
  refine wpAny_bind (wpAny_specialOf hT zip_has_no_hint ?_)
  exact wpAny_pure h
theorem zip_extend (hl : as.length = rows.length) (h0 : 0 < rows.length) (h1 : rows.length ≤ 100000) (hm : ∀ (j : Nat) (xs : List V), rows[j]? = some xs → xs.length = m) (hmz : m ≤ 100000) (hB : ∀ j, j < rows.length → (lsF as j).2 < B) (hh : A.in1.handled = none) (hS : B + rows.length + 2 < S)
    (hW : ∀ (i : Nat) (Ts : List Addr) (H : Hp) (T : Addr), i < m → W i Ts H → H T = none → H S = none → T ≠ S → W (i + 1) (Ts ++ [T]) (upd H T (.tup (rows.map fun xs => xs.getD i .non))))
    (hrow : ∀ (i : Nat) (Ts : List Addr) (H : Hp), W i Ts H → ∀ (j : Nat) (a : Bool × Addr) (xs : List V), as[j]? = some a → rows[j]? = some xs → SqB X.K H a xs)
    {s : Shared} {H : Hp} (I : Inv X pins σ H s) (hf : ∀ b ∈ fps B rows.length, FpOk X pins H b) (hfS : FpOk X pins H S) (st : ZipAt B rows.length 0 (lsF as) s.heap) {c : Nat} (hSo : s.heap.get? S = some (lsO #[] c)) (w : W 0 [] H)
    (hR : ∀ (s' : Shared) (H' : Hp) (Ts' : List Addr), Inv X pins σ H' s' → (∃ c, s'.heap.get? S = some (lsO (Ts'.map Value.ref).toArray c)) → Ts'.length = m → W m Ts' H' → FpOk X pins H' S → R (.ok (.ret res)) s') :
    wpAny (model X.prog X.w) A.in1 (Builtin.List.listExtendWith (.ref S) (.ref (B + rows.length + 2)) res)
      (fun fin s' => match fin with | .done f => R (.ok f) s' | .again c' => c'.quiet = true ∧ codeAny (model X.prog X.w) A c' R s') (fun e s' => R (.error e) s') s := by
  obtain ⟨f0, f1, _, hz⟩ := st.z
  have hT : s.TypeIs (.ref (B + rows.length + 2)) "zip" := ⟨_, hz, rfl⟩
  have ne : (S == B + rows.length + 2) = false := by
    rw [beq_eq_false_iff_ne]
    exact fun e => absurd hS (by rw [e]; exact Nat.lt_irrefl _)
  unfold Builtin.List.listExtendWith
  refine wpAny_bind (wpAny_typeOf hT ?_)
  have q1 : Builtin.List.listSameRef (.ref S) (.ref (B + rows.length + 2)) = false := ne
  have q2 : (Value.type "zip" == Value.type "list") = false := by decide
  have q3 : (Value.type "zip" == Value.type "tuple") = false := by decide
  simp only [q1, q2, q3, Bool.or_false, Bool.false_eq_true, if_false]
  refine wpAny_bind (self_zip st ?_)
  refine wpAny_bind (wpAny_holding (zip_hint hT ?_))
  refine wpAny_ite_split (fun _ => ?_) fun q => absurd rfl q
  refine wpAny_bind (wpAny_rule ?_)
  refine wpAny_bind ?_
  show wpAny _ _ (updateSeq S (·.push .none) >>= fun _ => updateSeq S (·.pop)) _ _ _
  refine wpAny_bind (wpAny_updateSeq hSo rfl ?_)
  have g1 := Heap.get?_update_self (Obj.mapSeq (·.push Value.none)) hSo rfl
  refine wpAny_updateSeq (hz := by seq_fits) g1 rfl ?_
  have g2 := Heap.get?_update_self (Obj.mapSeq (·.pop)) g1 rfl
  have oth : ∀ b o, b ≠ S → s.heap.get? b = some o → ((s.heap.update S (Obj.mapSeq (·.push Value.none))).update S (Obj.mapSeq (·.pop))).get? b = some o := fun b o hb e => (Heap.get?_update_other _ _ (Ne.symm hb)).trans ((Heap.get?_update_other _ _ (Ne.symm hb)).trans e)
  have I2 := I.turnedL (t' := s.toks) (ch := [S]) (fun b o hb e => oth b o (fun z => hb (by rw [z]; exact List.mem_singleton.mpr rfl)) e) (fun b hb => by rw [List.mem_singleton.mp hb]; exact hfS)
  exact wpAny_pure ⟨plainId_quiet F.plain_extend_loop _, zip_loop hl h0 h1 hm hmz hB hh hS hW hrow m 0 _ H [] rfl (Nat.zero_le _) I2 hf hfS
    (st.keep fun b b1 b2 o e => oth b o (fun z => absurd hS (by omega)) e) ⟨_, g2⟩ rfl w hR⟩
theorem refs_rel : ∀ Ts : List Addr, Vals (Ts.map V.ref) (Ts.map Value.ref)
  | [] => .nil
  | _ :: Ts => .cons rfl (refs_rel Ts)
/-- what was made on the side is laid -/
theorem lay_list {H : Hp} {s : Shared} {Ts : List Addr} (I : Inv X pins σ H s) (hfS : FpOk X pins H S) (hl : Ts.length ≤ 100000) (hSo : ∃ c, s.heap.get? S = some (lsO (Ts.map Value.ref).toArray c)) : Inv X pins σ (upd H S (.lst (Ts.map V.ref))) s := by
  have hn := hfS.1
  have up : ∀ (b : Addr) (u : HO), H b = some u → upd H S (.lst (Ts.map V.ref)) b = some u := fun b u e => by rw [upd_ne (ne_of_none e hn)]; exact e
  refine I.call' (ch := [S]) rfl ⟨fun b o q _ _ _ => q, fun b o q _ _ _ => ⟨o.slots, q⟩, fun b o q n hx => ?_, fun b o q _ => ⟨o, q⟩, fun b xs q => up _ _ q, fun b o u q => up _ _ q, fun b ps q => ⟨#[], by rw [Array.append_empty]; exact up _ _ q⟩⟩ (fun b u q => ?_) I.bare fun b hb => ?_
  · rw [upd_ne (fun z => hx (by rw [z]; exact List.mem_singleton.mpr rfl))]
    exact n
  · by_cases hb : b = S
    · subst hb
      rw [upd_same] at q
      cases q
      obtain ⟨c, e⟩ := hSo
      exact ⟨by rw [List.length_map, sizeLine_eq]; omega, _, c, refs_rel Ts, e⟩
    · rw [upd_ne hb] at q
      exact (I.hok b u q).stay (fun _ _ _ z => z) (fun d z => up _ _ z) fun d xs z => up _ _ z
  · rw [List.mem_singleton.mp hb]
    exact ⟨hfS.2.2.2.1, hfS.2.1, hfS.2.2.2.2.1, hfS.2.2.2.2.2⟩
theorem call_list_zip (hl : as.length = rows.length) (h0 : 0 < rows.length) (h1 : rows.length ≤ 100000) (hm : ∀ (j : Nat) (xs : List V), rows[j]? = some xs → xs.length = m) (hmz : m ≤ 100000) (hB : ∀ j, j < rows.length → (lsF as j).2 < B) (hh : A.handled = none)
    (hW : ∀ (i : Nat) (Ts : List Addr) (H : Hp) (T : Addr), i < m → W i Ts H → H T = none → W (i + 1) (Ts ++ [T]) (upd H T (.tup (rows.map fun xs => xs.getD i .non))))
    (hrow : ∀ (i : Nat) (Ts : List Addr) (H : Hp), W i Ts H → ∀ (j : Nat) (a : Bool × Addr) (xs : List V), as[j]? = some a → rows[j]? = some xs → SqB X.K H a xs)
    {s : Shared} {H : Hp} (I : Inv X pins σ H s) (hf : ∀ b ∈ fps B rows.length, FpOk X pins H b) (st : ZipAt B rows.length 0 (lsF as) s.heap) (w : W 0 [] H) {E : Value → Shared → Prop} {Q : Value → Shared → Prop}
    (hQ : ∀ (s' : Shared) (H' : Hp) (S : Addr) (Ts : List Addr), Inv X pins σ (upd H' S (.lst (Ts.map V.ref))) s' → H' S = none → Ts.length = m → W m Ts H' → Q (.ref S) s') :
    wpAny (model X.prog X.w) A (call (.type "list") [.ref (B + rows.length + 2)]) Q E s := by
  obtain ⟨f0, f1, _, hz⟩ := st.z
  have hzl : B + rows.length + 2 < s.heap.objs.size := Heap.lt_size hz
  refine callType_codes (Q₁ := fun obj s₁ => obj = .ref s.heap.objs.size ∧ s₁ = { s with heap := s.heap.push { cls := .type "list", data := .seq #[] } }) F.called_list (F.typeCall_list_1 _) F.entry_list_init
    (code_list_new _ ⟨rfl, rfl⟩) fun obj s₁ hs₁ => ?_
  obtain ⟨rfl, rfl⟩ := hs₁
  have g0 : (s.heap.push { cls := .type "list", data := .seq #[] }).get? s.heap.objs.size = some { cls := .type "list", data := .seq #[] } := Heap.get?_push_size _ rfl
  have k0 : ∀ b o, s.heap.get? b = some o → (s.heap.push { cls := .type "list", data := .seq #[] }).get? b = some o := fun b o e => Heap.get?_push_of_some _ e
  have hfS : FpOk X pins H s.heap.objs.size := I.fpOk (Nat.le_refl _) (I.hok.fresh (Nat.le_refl _))
  refine ⟨⟨_, g0, rfl⟩, F.args_list_init_2 _ _, ?_⟩
  show wpAny _ _ (do let old ← Builtin.List.listItems (.ref s.heap.objs.size); Builtin.List.listUpdate (.ref s.heap.objs.size) (fun _ => #[]); letGo old.toList.reverse; Builtin.List.listExtendWith (.ref s.heap.objs.size) (.ref (B + rows.length + 2)) .none) _ _ _
  refine wpAny_bind ?_
  unfold Builtin.List.listItems
  refine wpAny_bind (wpAny_seqItems (s := { s with heap := s.heap.push { cls := .type "list", data := .seq #[] } }) g0 rfl (wpAny_pure ?_))
  show wpAny _ _ (updateSeq s.heap.objs.size (fun _ => #[]) >>= fun _ => letGo (#[] : Array Value).toList.reverse >>= fun _ => Builtin.List.listExtendWith (.ref s.heap.objs.size) (.ref (B + rows.length + 2)) .none) _ _ _
  refine wpAny_bind (wpAny_updateSeq (s := { s with heap := s.heap.push { cls := .type "list", data := .seq #[] } }) g0 rfl ?_)
  have g1 := Heap.get?_update_self (Obj.mapSeq (fun _ => (#[] : Array Value))) g0 rfl
  have oth : ∀ b o, b ≠ s.heap.objs.size → s.heap.get? b = some o → ((s.heap.push { cls := .type "list", data := .seq #[] }).update s.heap.objs.size (Obj.mapSeq (fun _ => (#[] : Array Value)))).get? b = some o :=
    fun b o hb e => (Heap.get?_update_other _ _ (Ne.symm hb)).trans (k0 b o e)
  have lt : ∀ b o, s.heap.get? b = some o → b ≠ s.heap.objs.size := fun b o e => Nat.ne_of_lt (Heap.lt_size e)
  have I1 := I.kept (t' := s.toks) fun b o e => oth b o (lt b o e) e
  refine wpAny_bind (wpAny_letGo ?_)
  refine zip_extend (A := A.in1) (W := W) hl h0 h1 hm hmz hB hh hzl (fun i Ts H T a b c _ _ => hW i Ts H T a b c) hrow I1 hf hfS (st.keep fun b b1 b2 o e => oth b o (lt b o e) e) g1 w fun s' H' Ts' I' hSo hT w' hfS' => ?_
  exact ⟨rfl, hQ s' H' _ Ts' (lay_list I' hfS' (by omega) hSo) hfS'.1 hT w'⟩
end
/-- list(zip(a, c, ..)) -/
def tLZ (K : PySem.W.Frag) (ta : TA) : TE := fun σ H Q => ta σ H fun vs H1 => ∃ (as : List (Bool × Addr)) (rows : List (List V)) (m : Nat), vs = (as.map fun a => V.ref a.2) ∧ as.length = rows.length ∧ 0 < rows.length ∧ rows.length ≤ 100000 ∧ (∀ (j : Nat) (xs : List V), rows[j]? = some xs → xs.length = m) ∧ m ≤ 100000 ∧
  ∃ W : Nat → List Addr → Hp → Prop, W 0 [] H1 ∧ (∀ (i : Nat) (Ts : List Addr) (H : Hp) (T : Addr), i < m → W i Ts H → H T = none → W (i + 1) (Ts ++ [T]) (upd H T (.tup (rows.map fun xs => xs.getD i .non)))) ∧
  (∀ (i : Nat) (Ts : List Addr) (H : Hp), W i Ts H → ∀ (j : Nat) (a : Bool × Addr) (xs : List V), as[j]? = some a → rows[j]? = some xs → SqB K H a xs) ∧
  ∀ (S : Addr) (Ts : List Addr) (H' : Hp), W m Ts H' → H' S = none → Ts.length = m → Q (.ref S) (upd H' S (.lst (Ts.map V.ref)))
theorem pe_listZip {X : Cx} {e : Expr} {es : List Expr} {ta : TA} {p q pos pos2 : Pos} (hg2 : Gl X "list") (hm2 : X.mg "list" = none) (hg : Gl X "zip") (hm : X.mg "zip" = none) (ha : PA X (e :: es) ta) (hc : X.calm = true)
    (hs : starEach (e :: es) X.env = (false, eval e X.env) :: starEach es X.env := by rfl) (hpl : (backTo pos (starEach es X.env)).any (·.1) = false := by rfl)
    (hs2 : starEach [.Call (.Name "zip" p) (e :: es) [] pos] X.env = (false, eval (.Call (.Name "zip" p) (e :: es) [] pos) X.env) :: starEach [] X.env := by rfl) :
    PE X (.Call (.Name "list" q) [.Call (.Name "zip" p) (e :: es) [] pos] [] pos2) (tLZ X.K ta) := by
  refine ⟨fun pins s σ H Q I h => ?_⟩
  refine wpAny_Call_Name_kw (ld_blt I hg2 hm2 PyProof.Rows.boot_list ?_ (by decide) (by decide))
  refine PyProof.Rows.callWith_type1 ?_ hs2 rfl
  rw [hs2]
  refine Calls.spliced_cons ?_
  refine Call_ (ld_blt I hg hm PyProof.Rows.boot_zip (PyProof.Rows.callWith_type1 (thn (ha.run pos pins s σ H _ I h) fun us s1 ⟨vs, H1, I1, r1, q1⟩ => ?_) hs hpl))
  obtain ⟨as, rows, m, ev, hl, h0, h1, h2, hmz, W, w0, w1, w2, q⟩ := q1
  subst ev
  rw [refs_vals r1, addrs_eq, hl]
  obtain ⟨its, hits⟩ := rows_at I1 hl (w2 _ _ _ w0)
  have hB : ∀ j, j < rows.length → (as.getD j (false, 0)).2 < s1.heap.objs.size := fun j hj => by
    obtain ⟨o, ho⟩ := (hits j hj).2.there
    exact Heap.lt_size ho
  refine call_zipN h0 h1 (fun j hj => (hits j hj).2) fun h' z k => ?_
  refine Calls.spliced_nil ?_
  have I2 := I1.kept (t' := s1.toks) k
  refine call_list_zip (W := W) hl h0 h1 h2 hmz hB (I2.ok.hd hc) w1 w2 I2 (fun b hb => ?_) z w0 fun s' H' S Ts I' hS hT w' => ⟨.ref S, _, I', rfl, q S Ts H' w' hS hT⟩
  have hle := (mem_fps.mp hb).1
  exact I1.fpOk hle (I1.hok.fresh hle)
end ZN

namespace DL
open PySem PySem.Spec PyProof.Rows L2
open ZN (SqB tLZ pe_listZip)
section
variable {X : Cx} {b : Bg} {e e1 e2 o tg iter kx vx : Expr} {es : List Expr} {pos : Pos} {F H : Hp}
/-! ### list(zip(x, y)) -/
@[reducible] def lZ2 (Ta : DAt) : DAt := fun γ P => Ta γ fun ds => match ds with
  | [.lst xs, .lst ys] => xs.length = ys.length ∧ xs.length ≤ 100000 ∧ P (zipD xs ys)
  | [.lst xs, .tup ys] => xs.length = ys.length ∧ xs.length ≤ 100000 ∧ P (zipD xs ys)
  | [.tup xs, .lst ys] => xs.length = ys.length ∧ xs.length ≤ 100000 ∧ P (zipD xs ys)
  | [.tup xs, .tup ys] => xs.length = ys.length ∧ xs.length ≤ 100000 ∧ P (zipD xs ys)
  | _ => False
theorem l_listZip {p q pos2 : Pos} (hg2 : Gl X "list") (hm2 : X.mg "list" = none) (hg : Gl X "zip") (hm : X.mg "zip" = none) (ha : XA X b [e1, e2] Ta) (hc : X.calm = true)
    (hs : starEach [e1, e2] X.env = (false, eval e1 X.env) :: starEach [e2] X.env := by rfl) (hpl : (backTo pos (starEach [e2] X.env)).any (·.1) = false := by rfl)
    (hs2 : starEach [.Call (.Name "zip" p) [e1, e2] [] pos] X.env = (false, eval (.Call (.Name "zip" p) [e1, e2] [] pos) X.env) :: starEach [] X.env := by rfl) :
    XL X b (.Call (.Name "list" q) [.Call (.Name "zip" p) [e1, e2] [] pos] [] pos2) (lZ2 Ta) := by
  obtain ⟨_, h1, h2⟩ := ha
  refine ⟨_, pe_listZip hg2 hm2 hg hm h1 hc hs hpl hs2, fun P n t Q q => h2 _ n t _ fun vs ds F1 H1 x1 r1 t1 => ?_⟩
  cases r1 with
  | nil => exact t1.elim
  | cons ra rb =>
    cases rb with
    | nil => cases ra <;> exact t1.elim
    | cons rb rc =>
      cases rc with
      | cons _ _ => cases ra <;> cases rb <;> exact t1.elim
      | nil =>
        rename_i v d w e
        have key : ∃ (t u : Bool) (xs ys : List Dt), sqP d = some (t, xs) ∧ sqP e = some (u, ys) ∧ xs.length = ys.length ∧ xs.length ≤ 100000 ∧ P (zipD xs ys) := by
          cases d <;> cases e <;> first | exact t1.elim | exact ⟨_, _, _, _, rfl, rfl, t1.1, t1.2.1, t1.2.2⟩
        obtain ⟨t, u, xs, ys, hd, he, hl, hl2, p1⟩ := key
        obtain ⟨a, us, rfl, _, k1, f1⟩ := sqP_rep (K := X.K) x1.sub ra hd
        obtain ⟨c, ws, rfl, _, k2, f2⟩ := sqP_rep (K := X.K) x1.sub rb he
        have hzl : (zipD xs ys).length = xs.length := by rw [zipD_len]; omega
        refine ⟨[(t, a), (u, c)], [us, ws], xs.length, rfl, rfl, (by show 0 < 2; decide), (by show 2 ≤ 100000; decide), fun j zs ej => ?_, hl2, fun i Ts Hi => ∃ Fi, Ext b F1 H1 Fi Hi ∧ RepL b Fi (Ts.map V.ref) ((zipD xs ys).take i), ⟨F1, Ext.refl x1.ok, .nil⟩, fun i Ts Hi T hi hw hT => ?_, fun i Ts Hi hw j p zs ea er => ?_, fun S Ts Hi hw hS hlT => ?_⟩
        · match j, ej with
          | 0, ej => cases ej; exact k1.length
          | 1, ej => cases ej; rw [k2.length, hl]
          | j + 2, ej => simp at ej
        · obtain ⟨Fi, xx, rr⟩ := hw
          have y := Ext.push (o := .tup ([us, ws].map fun zs => zs.getD i .non)) xx.ok hT
          obtain ⟨v1, hv1, rv1⟩ := k1.get' (List.getElem?_eq_getElem hi)
          obtain ⟨v2, hv2, rv2⟩ := k2.get' (List.getElem?_eq_getElem (show i < ys.length by omega))
          refine ⟨_, xx.trans y, ?_⟩
          rw [List.map_append, List.take_add_one]
          refine RepL.append (RepL.mono y.grow rr) ?_
          have ez : (zipD xs ys)[i]? = some (.tup [xs[i], ys[i]]) := by
            unfold zipD
            rw [List.getElem?_zipWith, List.getElem?_eq_getElem hi, List.getElem?_eq_getElem (show i < ys.length by omega)]
          rw [ez]
          refine .cons (.tup (vs := [us.getD i .non, ws.getD i .non]) upd_same ?_) .nil
          rw [List.getD_eq_getElem?_getD, List.getD_eq_getElem?_getD, hv1, hv2]
          exact .cons (rv1.mono (xx.grow.trans y.grow)) (.cons (rv2.mono (xx.grow.trans y.grow)) .nil)
        · obtain ⟨Fi, xx, rr⟩ := hw
          match j, ea, er with
          | 0, ea, er =>
            cases ea; cases er
            have := xx.sub _ _ (xx.grow _ _ f1)
            unfold SqB
            cases t
            · exact SqL.of this
            · exact SqT.of this
          | 1, ea, er =>
            cases ea; cases er
            have := xx.sub _ _ (xx.grow _ _ f2)
            unfold SqB
            cases u
            · exact SqL.of this
            · exact SqT.of this
          | j + 2, ea, _ => simp at ea
        · obtain ⟨Fi, xx, rr⟩ := hw
          rw [← hzl, List.take_length] at rr
          have z := x1.trans xx
          exact q S _ _ Fi _ (z.trans (Ext.laid xx.ok hS)) (z.back n.ok hS) upd_same (xx.ok.fF hS) rr p1
/-! ### dicts by names that are new -/
def DMs (b : Bg) (te : TE) (T : Gm → (List (Str × Dt) → Prop) → Prop) : Prop := ∀ {Fm F0 H0 F H : Hp} {σ : L2.St} {γ : Gm} (P : List (Str × Dt) → Prop), Nv b Fm F0 H0 F H σ γ → T γ P →
  ∀ Q : VK, (∀ p vs kvs F' H', Ext b F H F' H' → H p = none → H' p = some (.dK (keysOf vs)) → F' p = none → RepF b F' vs kvs → P kvs → Q (.ref p) H') → te σ H Q
structure XDn (X : Cx) (b : Bg) (e : Expr) (T : Gm → (List (Str × Dt) → Prop) → Prop) : Prop where
  ex : ∃ te, PE X e te ∧ DMs b te T
abbrev DMt := Gm → (List (Str × Dt) → Prop) → Prop
/-- x = a new dict -/
@[reducible] def sSetM (i : Nat) (T : DMt) : DSt := fun E γ => T γ fun kvs => ∀ l, E.nx (gset γ i (.obj l (.dK kvs)))
theorem s_setM {i : Nat} {x : Str} {p2 : Pos} {T : DMt} (hN : X.N.Nodup) (hi : X.N[i]? = some x) (hx : Loc X.env.scope x) (h : XDn X b e T)
    (hs : swapsWith e (some (.Name x p2)) pos.line X.env = pure false := by rfl) (hf : X.fn x = true ∨ X.env.scope.names.lookup x = some .local := by first | exact .inl rfl | exact .inr rfl | assumption) :
    XS X b (.Assign [.Name x p2] e pos) (sSetM i T) := by
  obtain ⟨_, h1, h2⟩ := h
  refine ⟨_, ps_set hN hi hx h1 hs hf, fun {Fm F0 H0 F H σ γ} E n t D k => h2 _ n t _ fun l vs kvs F' H' x hl hd fl r q => ?_⟩
  have nb : b.bag ≠ some l := n.ok.nb hl
  exact k.nx ((n.to x).setObj i (l := l) hd (.dK r) fl (n.ext.back n.ok0 hl) nb fun j a hj hq => by
    obtain ⟨u, hu⟩ := n.there hj
    rw [hq, hl] at hu
    cases hu) (q l)
/-! dict(pairs) -/
def pairD (p : Str × Dt) : Dt := .tup [.str p.1, p.2]
def mergeS {α : Type} (kvs : List (Str × α)) : List (Str × α) := kvs.foldl (fun acc p => putS p.1 p.2 acc) []
theorem pairs_rep {b : Bg} {F H : Hp} {K : PySem.W.Frag} (s : Sub F H) : ∀ {kvs : List (Str × Dt)} {ws : List V}, RepL b F ws (kvs.map pairD) → ∃ (as : List Addr) (vs : List (Str × V)), ws = as.map V.ref ∧ RepF b F vs kvs ∧ Paired (fun p (kv : Key × V) => SqT K H p [kV kv.1, kv.2]) as (keysOf vs)
  | [], _, h => by cases h; exact ⟨[], [], rfl, .nil, .nil⟩
  | (k, d) :: kvs, _, h => by
    cases h with
    | cons r t =>
      obtain ⟨as, vs, e, rf, pp⟩ := pairs_rep s t
      cases r with
      | tup ha rl =>
        cases rl with
        | cons r1 rl2 =>
          cases rl2 with
          | cons r2 rl3 =>
            cases rl3
            cases r1
            exact ⟨_ :: as, (k, _) :: vs, by rw [e] <;> rfl, .cons r2 rf, .cons (SqT.of (s _ _ ha)) pp⟩
theorem merge_keys : ∀ (vs : List (Str × V)) (ws : List (Str × V)), mergeK (keysOf ws) (keysOf vs) = keysOf (vs.foldl (fun acc p => putS p.1 p.2 acc) ws)
  | [], ws => rfl
  | (k, v) :: vs, ws => by
    show mergeK (putK (keysOf ws) (Sum.inr k) v) (keysOf vs) = keysOf (vs.foldl (fun acc p => putS p.1 p.2 acc) (putS k v ws))
    rw [putK_keys, merge_keys vs]
theorem RepF.merge {b : Bg} {F : Hp} : ∀ {vs : List (Str × V)} {kvs : List (Str × Dt)} {ws : List (Str × V)} {acc : List (Str × Dt)}, RepF b F vs kvs → RepF b F ws acc → RepF b F (vs.foldl (fun acc p => DL.putS p.1 p.2 acc) ws) (kvs.foldl (fun acc p => DL.putS p.1 p.2 acc) acc)
  | _, [], _, _, h, g => by cases h; exact g
  | _, (k, d) :: kvs, _, _, h, g => by
    cases h with
    | cons r t =>
      have q := RepF.merge t (RepF.putS (k := k) r g)
      exact q
@[reducible] def mDict (Ta : DAt) : DMt := fun γ P => Ta γ fun ds => match ds with | [.lst ps] => ∃ kvs : List (Str × Dt), ps = kvs.map pairD ∧ P (mergeS kvs) | _ => False
theorem m_dict {p : Pos} (hg : Gl X "dict") (hm : X.mg "dict" = none) (hc : X.calm = true) (ha : XA X b [e] Ta) (he : starEach [e] X.env = (false, eval e X.env) :: starEach [] X.env := by rfl) (hpl : (backTo pos (starEach [] X.env)).any (·.1) = false := by rfl) :
    XDn X b (.Call (.Name "dict" p) [e] [] pos) (mDict Ta) := by
  obtain ⟨_, h1, h2⟩ := ha
  refine ⟨_, pe_callTy (call_dictP hc) hg hm (by decide +kernel) h1 (he := he) (hpl := hpl), fun P n t Q q => h2 _ n t _ fun vs ds F1 H1 x1 r t => ?_⟩
  cases r with
  | nil => exact t.elim
  | cons r1 r2 =>
    cases r2 with
    | cons _ _ => cases r1 <;> exact t.elim
    | nil =>
      cases r1 with
      | lst h r =>
        obtain ⟨kvs, e, pq⟩ := t
        subst e
        obtain ⟨as, ws, ew, rf, pp⟩ := pairs_rep (K := X.K) x1.sub r
        subst ew
        refine ⟨_, as, keysOf ws, rfl, SqL.of (x1.sub _ _ h), pp, fun l hl => ?_⟩
        rw [show mergeK [] (keysOf ws) = keysOf (mergeS ws) from merge_keys ws []]
        exact q l _ _ F1 _ (x1.trans (Ext.laid x1.ok hl)) (x1.back n.ok hl) upd_same (x1.ok.fF hl) (RepF.merge rf .nil) pq
      | _ => exact t.elim
/-! {k: v for ..}, its keys strings -/
@[reducible] def mDc (TI : DAt) (Tg : Dt → Gm → (Gm → Prop) → Prop) (Tt : DBt) (Ty Te : DT) (vs : List Nat) : DMt := fun γ P => TI γ fun xs => xs.length ≤ 100000 ∧ Word (∃ Iv : Nat → List (Str × Dt) → Prop, Iv 0 [] ∧
  (∀ i d acc, xs[i]? = some d → acc.length ≤ i → Iv i acc → Tg d (gwipe γ vs) fun γ2 => Tt γ2 fun c => (match c with | true => Ty γ2 fun y => Te γ2 fun z => (match y with | .str k => Iv (i + 1) (putS k z acc) | _ => False) | false => Iv (i + 1) acc)) ∧ ∀ acc, acc.length ≤ xs.length → Iv xs.length acc → P acc)
theorem keysOf_len (vs : List (Str × V)) : (keysOf vs).length = vs.length := List.length_map ..
theorem dm_dc {wi : TI} {g : TG} {tt : TT} {tk tv : TE} {vs js : List Nat} {TI : DAt} {Tg : Dt → Gm → (Gm → Prop) → Prop} {Tt : DBt} {T1 T2 : DT} (hi : DI b wi TI) (hg : DG b g Tg js) (ht : DB b tt Tt) (hk : DE b tk T1) (hv : DE b tv T2) (hj : ∀ i, i ∈ js → i ∈ vs) :
    DMs b (tDc wi g tt tk tv vs) (mDc TI Tg Tt T1 T2 vs) := fun {Fm F0 H0 F H σ γ} P n t Q q => hi _ n t _ fun J xs Fx H1 x1 w t1 => by
  obtain ⟨hz, Iv, i0, is, id⟩ := t1
  intro D hD
  obtain ⟨Y, wk, wy⟩ := w.ex
  have nb : b.bag ≠ some D := x1.ok.nb hD
  let Pv : Nat → Hp → Prop := fun i H' => ∃ F' kvs acc, Ext b Fx H1 F' H' ∧ H' D = some (.dK (keysOf kvs)) ∧ F' D = none ∧ RepF b F' kvs acc ∧ acc.length ≤ i ∧ Iv i acc
  refine ⟨fun i m H' => m = xs.length - i ∧ i ≤ xs.length ∧ Pv i H', ⟨_, rfl, Nat.zero_le _, Fx, [], [], Ext.laid x1.ok hD, upd_same, x1.ok.fF hD, .nil, Nat.le_refl _, i0⟩, ?_⟩
  rintro i m H' ⟨rfl, hle, F', kvs, acc, xx, a1, a2, a3, a4, a5⟩
  have gg : Sub Fx H' := fun a o h => xx.sub a o (xx.grow a o h)
  by_cases hlt : i < xs.length
  · refine .inr ⟨wk.goes i H' hlt gg, Pv (i + 1), fun Hn p => ⟨xs.length - (i + 1), by omega, rfl, hlt, p⟩, fun x H'' y0 => ?_⟩
    obtain ⟨d, hd, hy⟩ := wy i H' x H'' hlt (wk.yields i H' x H'' hlt gg y0)
    obtain ⟨F2, x2, rx⟩ : ∃ F2, Ext b F' H' F2 H'' ∧ Rep b F2 x d := by
      rcases hy with ⟨rfl, r⟩ | ⟨T, us, ds, rfl, hT, rfl, r, rfl⟩
      · exact ⟨F', Ext.refl xx.ok, r.mono xx.grow⟩
      · exact ⟨_, Ext.push xx.ok hT, .tup upd_same (r.mono (xx.grow.trans (Ext.push xx.ok hT).grow))⟩
    have n2 : Nv b Fm F0 H0 F2 H'' (wipe σ vs) (gwipe γ vs) := ((n.to x1).to (xx.trans x2)).wiped vs
    refine hg _ n2 rx (is i d acc hd a4 a5) _ fun σ2 γ2 n3 l3 s3 t3 => ⟨?_, ?_⟩
    · exact (wipe_ext (js := vs) l3 fun i hi => s3 i fun z => hi (hj i z)).trans (wipe_ext (wipe_length _ _) fun i hi => wipe_at σ hi)
    · have hD2 : H'' D = some (.dK (keysOf kvs)) := x2.keep _ _ nb a1 .dK
      refine ht _ n3 t3 _ fun c F3 H3 x3 t4 => ?_
      cases c with
      | true =>
        refine iteT (hk _ (n3.to x3) t4 _ fun y dk F4 H4 x4 r4 t5 => hv _ ((n3.to x3).to x4) t5 _ fun z dz F5 H5 x5 r5 t6 => ?_)
        cases r4 <;> first | exact t6.elim | skip
        rename_i k
        have z5 := (x3.trans x4).trans x5
        have hD5 : H5 D = some (.dK (keysOf kvs)) := z5.keep _ _ nb hD2 .dK
        have fD5 : F5 D = none := by rw [z5.new _ _ hD2 .dK, x2.new _ _ a1 .dK]; exact a2
        have hl := a3.length
        refine ⟨keysOf kvs, .inr k, rfl, hD5, Nat.lt_of_le_of_lt (show (keysOf kvs).length ≤ 100000 by rw [keysOf_len]; omega) (by decide), ?_⟩
        rw [putK_keys]
        refine ⟨F5, putS k z kvs, putS k dz acc, ((xx.trans x2).trans z5).wr hD fD5 nb hD5 .dK (fun _ z => by cases z), upd_same, fD5, ?_, ?_, t6⟩
        · exact (RepF.mono (x2.grow.trans z5.grow) a3).putS r5
        · have := putS_len k dz acc
          omega
      | false =>
        have fD3 : F3 D = none := by rw [x3.new _ _ hD2 .dK, x2.new _ _ a1 .dK]; exact a2
        exact iteF ⟨F3, kvs, acc, (xx.trans x2).trans x3, x3.keep _ _ nb hD2 .dK, fD3, RepF.mono (x2.grow.trans x3.grow) a3, Nat.le_succ_of_le a4, t4⟩
  · have e : i = xs.length := by omega
    subst e
    refine .inl ⟨wk.stops H' gg, ?_⟩
    exact q D kvs acc F' H' (x1.trans xx) (x1.back n.ok hD) a1 a2 a3 (id acc a4 a5)
theorem m_dc {ifs : List Expr} {scope : Scope} {own : List (Str × Nat)} {js vs : List Nat} {TI : DAt} {Tg : Dt → Gm → (Gm → Prop) → Prop} {Tt : DBt} {T1 T2 : DT} (hc : X.calm = true) (hN : X.N.Nodup) (hu : X.A.units + 64 < cLine) (hi : XI X b tg iter TI) (ok : BlkOk X.N X.env.scope scope own)
    (hg : ∀ i : Bix, XG (Cx.blkI X scope i) b tg Tg js) (ht : ∀ i : Bix, XTs (Cx.blkI X scope i) b ifs Tt) (hk : ∀ i : Bix, XE (Cx.blkI X scope i) b kx T1) (hv : ∀ i : Bix, XE (Cx.blkI X scope i) b vx T2) (hj : ∀ i, i ∈ js → i ∈ vs) (ho : own.map (·.2) = vs := by rfl) (hs : ∀ x, foldedSetIterable iter X.env x = pure x := by intro _; rfl) :
    XDn X b (.DictComp kx vx [⟨tg, iter, ifs, 0⟩] scope pos) (mDc TI Tg Tt T1 T2 vs) := by
  subst ho
  obtain ⟨_, i1, i2⟩ := hi
  obtain ⟨g, g1, g2⟩ := XG.all hg
  obtain ⟨tt, t1, t2⟩ := XTs.all ht
  obtain ⟨tk, k1, k2⟩ := XE.all hk
  obtain ⟨tv, v1, v2⟩ := XE.all hv
  exact ⟨_, pe_dc hc hN i1 ok (fun s H C cl fp => g1 ⟨s, H, C, cl, fp⟩) (fun s H C cl fp => t1 ⟨s, H, C, cl, fp⟩) (fun s H C cl fp => k1 ⟨s, H, C, cl, fp⟩) (fun s H C cl fp => v1 ⟨s, H, C, cl, fp⟩) hs, dm_dc i2 g2 t2 k2 v2 hj⟩
/-! d[key] = e, d a dict of one's own, its key told by data -/
@[reducible] def sDputK (i : Nat) (Tv Tkk : DT) : DSt := fun E γ => match gat γ i with
  | .obj l o => (match o with | .dK kvs => kvs.length < 1000 ∧ Tv γ (fun d => Tkk γ fun k => match k with | .str k => E.nx (gset γ i (.obj l (.dK (putS k d kvs)))) | _ => False) | _ => False)
  | _ => False
theorem s_dputK (i : Nat) {x : Str} {p1 p2 : Pos} (hu : X.A.units + 64 < cLine) (hv : XE X b e Tv) (hk : XE X b e1 Tkk) (hN : X.N[i]? = some x := by rfl) (hvi : Vis X.env.scope x := by first | exact Or.inl rfl | exact Or.inr (Or.inl rfl) | exact Or.inr (Or.inr rfl)) (hd : (x == ("__debug__" : Str)) = false := by decide)
    (hcd : (x == ("__classdict__" : Str)) = false := by decide) (hs : swapsWith e (some (.Subscript (.Name x p1) e1 p2)) pos.line X.env = pure false := by rfl) : XS X b (.Assign [.Subscript (.Name x p1) e1 p2] e pos) (sDputK i Tv Tkk) := by
  obtain ⟨_, h1, h2⟩ := hv
  obtain ⟨_, k1, k2⟩ := hk
  refine ⟨_, ps_dput (by omega) (pe_var hN hvi hd hcd) k1 h1 hs, fun {Fm F0 H0 F H σ γ} E n t D k => ?_⟩
  unfold sDputK at t
  have hi := n.slot i
  cases e : gat γ i with
  | obj l d =>
    rw [e] at hi t
    cases d <;> first | exact t.elim | skip
    rename_i kvs
    obtain ⟨hl, t⟩ := t
    obtain ⟨u, a1, a2, a3, a4, a5, a6⟩ := hi
    cases a3 with
    | @dK vs _ r =>
      refine h2 _ n t _ fun v z F1 H1 x1 r1 t1 => ⟨_, a1, k2 _ (n.to x1) t1 _ fun y dk F2 H2 x2 r2 t2 => ?_⟩
      cases r2 <;> first | exact t2.elim | skip
      rename_i kx
      have z2 := x1.trans x2
      have hz : (keysOf vs).length < sizeLine := by
        rw [keysOf_len, r.length]
        exact Nat.lt_trans hl (by decide)
      refine ⟨l, _, rfl, DPut.k (k := Sum.inr kx) (z2.keep _ _ a6 a2 .dK) hz, ?_⟩
      rw [putK_keys]
      exact k.nx ((n.to z2).wrO e (.dK ((RepF.mono z2.grow r).putS (r1.mono x2.grow)))) t2
  | _ => rw [e] at t; exact t.elim
theorem gset_twice : ∀ (γ : Gm) (i : Nat) (s t : Sl), gset (gset γ i s) i t = gset γ i t
  | [], _, _, _ => rfl
  | _ :: _, 0, _, _ => rfl
  | z :: r, i + 1, s, t => congrArg (z :: ·) (gset_twice r i s t)
theorem gat_out : ∀ {γ : Gm} {i : Nat}, γ.length ≤ i → gat γ i = .un
  | [], _, _ => rfl
  | _ :: r, i + 1, h => gat_out (γ := r) (Nat.le_of_succ_le_succ h)
/-! d[k1], d[k2] = e -/
@[reducible] def sPut2 (i : Nat) (Tv : DT) (k1 k2 : Str) : DSt := fun E γ => match gat γ i with
  | .obj l o => (match o with | .dK kvs => kvs.length < 999 ∧ Tv γ (fun d => match d with | .tup [d1, d2] => E.nx (gset γ i (.obj l (.dK (putS k2 d2 (putS k1 d1 kvs))))) | _ => False) | _ => False)
  | _ => False
theorem s_put2 (i : Nat) {x k1 k2 : Str} {j1 j2 kt : Nat} {p1 p2 p3 p4 p5 p6 pt : Pos} (hc : X.calm = true) (hu : X.A.units + 64 < cLine) (hv : XE X b e Tv) (hN : X.N[i]? = some x := by rfl) (hvi : Vis X.env.scope x := by first | exact Or.inl rfl | exact Or.inr (Or.inl rfl) | exact Or.inr (Or.inr rfl)) (hd : (x == ("__debug__" : Str)) = false := by decide)
    (hcd : (x == ("__classdict__" : Str)) = false := by decide)
    (hs : swapsWithSole [.Tuple [.Subscript (.Name x p1) (.Constant (.str k1) j1 p2) p3, .Subscript (.Name x p4) (.Constant (.str k2) j2 p5) p6] kt pt] e pos.line X.env = pure false := by rfl)
    (hw : swappedStores [.Tuple [.Subscript (.Name x p1) (.Constant (.str k1) j1 p2) p3, .Subscript (.Name x p4) (.Constant (.str k2) j2 p5) p6] kt pt] e X.env = pure none := by rfl) :
    XS X b (.Assign [.Tuple [.Subscript (.Name x p1) (.Constant (.str k1) j1 p2) p3, .Subscript (.Name x p4) (.Constant (.str k2) j2 p5) p6] kt pt] e pos) (sPut2 i Tv k1 k2) := by
  obtain ⟨_, h1, h2⟩ := hv
  have u1 : X.A.units + 1 < cLine := by omega
  refine ⟨_, ps_asg h1 (pg_tup hc (pgs_cons (pg_sub (pe_var hN hvi hd hcd) pe_str (set_dict u1)) (pgs_cons (pg_sub (pe_var hN hvi hd hcd) pe_str (set_dict u1)) pgs_nil rfl) rfl) rfl rfl) hs hw rfl, fun {Fm F0 H0 F H σ γ} E n t D k => ?_⟩
  unfold sPut2 at t
  have hi := n.slot i
  cases e : gat γ i with
  | obj l d =>
    rw [e] at hi t
    cases d <;> first | exact t.elim | skip
    rename_i kvs
    obtain ⟨hl, t⟩ := t
    refine h2 _ n t _ fun v z F1 H1 x1 r1 t1 => ?_
    cases r1 <;> first | exact t1.elim | skip
    rename_i a vs xs ha rl
    match xs, rl, t1 with
    | [d1, d2], .cons q1 (.cons q2 .nil), t1 =>
      rename_i v1 v2
      have n1 := n.to x1
      have hi1 := n1.slot i
      rw [e] at hi1
      obtain ⟨u, a1, a2, a3, a4, a5, a6⟩ := hi1
      cases a3 with
      | @dK ws _ r =>
        have hz : (keysOf ws).length < sizeLine := by
          rw [keysOf_len, r.length]
          exact Nat.lt_trans hl (by decide)
        refine ⟨_, _, rfl, SqT.of (n1.ok.1 _ _ ha), rfl, _, _, rfl, ⟨_, a1, l, _, rfl, DPut.k (k := Sum.inr k1) a2 hz, ?_⟩⟩
        rw [putK_keys]
        have n2 := n1.wrO e (.dK (r.putS (k := k1) q1))
        have e2 : gat (gset γ i (.obj l (.dK (putS k1 d1 kvs)))) i = .obj l (.dK (putS k1 d1 kvs)) := by
          rcases gat_set γ (i := i) (.obj l (.dK (putS k1 d1 kvs))) with q | ⟨q, hle⟩
          · exact q
          · exfalso
            rw [show gat γ i = .un from gat_out hle] at e
            cases e
        have hz2 : (keysOf (putS k1 v1 ws)).length < sizeLine := by
          have := putS_len k1 v1 ws
          rw [keysOf_len]
          have := r.length
          exact Nat.lt_trans (show _ < 1000 by omega) (by decide)
        refine ⟨_, _, rfl, ⟨_, a1, l, _, rfl, DPut.k (k := Sum.inr k2) upd_same hz2, ?_⟩⟩
        rw [putK_keys]
        have n3 := n2.wrO e2 (.dK (RepF.putS (k := k2) (q2) (r.putS (k := k1) q1)))
        have ee : gset (gset γ i (.obj l (.dK (putS k1 d1 kvs)))) i (.obj l (.dK (putS k2 d2 (putS k1 d1 kvs)))) = gset γ i (.obj l (.dK (putS k2 d2 (putS k1 d1 kvs)))) := gset_twice ..
        rw [ee] at n3
        exact ⟨rfl, k.nx n3 t1⟩
  | _ => rw [e] at t; exact t.elim
/-! d.get((k1, ..)) -/
def lookT {α : Type} (kvs : List (List Key × α)) (k : List Key) : Option α := (kvs.find? fun kv => decide (kv.1 = k)).map (·.2)
theorem RepD.look {k : List Key} : ∀ {kvs : List (List Key × Dt)} {vs : List (List Key × V)}, RepD b F vs kvs → Rep b F ((valV vs k).getD .non) ((lookT kvs k).getD .non)
  | [], _, h => by cases h; exact .non
  | (n, d) :: kvs, _, h => by
    cases h with
    | @cons _ v ws _ _ r t =>
      by_cases e : n = k
      · rw [valV_pos (p := (n, v)) e]
        unfold lookT
        rw [List.find?_cons_of_pos (a := (n, d)) (p := fun kv => decide (kv.1 = k)) (decide_eq_true e)]
        exact r
      · rw [valV_neg (p := (n, v)) e]
        unfold lookT
        rw [List.find?_cons_of_neg (a := (n, d)) (p := fun kv => decide (kv.1 = k)) (by rw [decide_eq_false e]; exact Bool.false_ne_true)]
        exact RepD.look t
@[reducible] def dGet1 (Ta Tkk : DT) : DT := fun γ P => Ta γ fun d => match d with | .dT kvs => Tkk γ (fun k => match k with | .tup ks => ∃ k : List Key, ks = k.map keyD ∧ P ((lookT kvs k).getD .non) | _ => False) | _ => False
theorem x_get1 {apos : Pos} (hu : X.A.units + 64 < cLine) (ha : XE X b e1 Ta) (hk : XE X b e2 Tkk) (m : M1 X e1 "get" apos e2 pos := by exact ⟨rfl, rfl, rfl, rfl⟩) : XE X b (.Call (.Attribute e1 "get" apos) [e2] [] pos) (dGet1 Ta Tkk) := by
  obtain ⟨_, h1, h2⟩ := ha; obtain ⟨_, g1, g2⟩ := hk
  refine ⟨_, pe_dget1 (by omega) h1 g1 m, fun P n t Q q => h2 _ n t _ fun v d F1 H1 x1 r1 t1 => ?_⟩
  cases r1 with
  | dT e r =>
    refine ⟨_, rfl, .inr ⟨_, .inl (x1.sub _ _ e)⟩, g2 _ (n.to x1) t1 _ fun w dk F2 H2 x2 r2 t2 => ?_⟩
    cases r2 <;> first | exact t2.elim | skip
    rename_i ks hb rl
    obtain ⟨k, ek, t3⟩ := t2
    subst ek
    have ew := keys_rep rl
    subst ew
    exact ⟨_, DGet.t (x2.sub _ _ (x2.grow _ _ e)) (x2.sub _ _ hb), q _ _ F2 H2 (x1.trans x2) (RepD.look (RepD.mono x2.grow r)) t3⟩
  | _ => exact t1.elim
/-! an own dict lent while another is made -/
theorem repF_lessO {l : Addr} {u : HO} (hl : F l = some u) (n1 : ∀ vs, u ≠ .lst vs) (n2 : ∀ vs, u ≠ .tup vs) : ∀ {ds : List (Str × Dt)} {vs : List (Str × V)}, RepF b F vs ds → (ds.all fun p => noObj p.2) = true → RepF b (less F l) vs ds
  | [], _, h, _ => by cases h; exact .nil
  | (k, d) :: ds, _, h, p => by
    cases h with
    | cons r t =>
      obtain ⟨p1, p2⟩ := Bool.and_eq_true_iff.mp (show (noObj d && ds.all fun p => noObj p.2) = true from p)
      exact .cons (rep_lessO hl n1 n2 r p1) (repF_lessO hl n1 n2 t p2)
@[reducible] def mLend (i : Nat) (T : DMt) : DMt := fun γ P => match gat γ i with
  | .obj _ o => objK o = true ∧ T (gset γ i (.val o)) fun kvs => (kvs.all fun p => noObj p.2) = true ∧ P kvs
  | _ => False
theorem m_lend (i : Nat) {T : DMt} (h : XDn X b e T) : XDn X b e (mLend i T) := by
  obtain ⟨_, h1, h2⟩ := h
  refine ⟨_, h1, fun {Fm F0 H0 F H σ γ} P n t Q q => ?_⟩
  unfold mLend at t
  cases e : gat γ i with
  | obj l o =>
    rw [e] at t
    have hi := n.slot i
    rw [e] at hi
    obtain ⟨u, a1, a2, a3, a4, a5, a6⟩ := hi
    obtain ⟨nl, core⟩ := lend_coreG n (d := o) (by rw [e]; rfl) a1 a2 a3 a4 a5 a6
    obtain ⟨k1, k2⟩ := a3.kind t.1
    refine h2 _ nl t.2 Q fun p vs kvs F' H' y hp hd fl r pq => q p vs kvs (less F' l) H' (core F' H' y).2 hp hd ?_ (repF_lessO (core F' H' y).1 k1 k2 r pq.1) pq.2
    unfold less
    by_cases ep : p = l
    · rw [if_pos ep]
    · rw [if_neg ep]; exact fl
  | _ => rw [e] at t; exact t.elim
end
end DL

namespace DL
open PySem PySem.Spec PyProof.Rows L2
section
variable {X : Cx} {b : Bg} {e1 e2 : Expr} {pos : Pos}
/-- x + y of two lists, new -/
@[reducible] def lAddL (Ta Tb : DT) : DAt := fun γ P => Ta γ fun x => Tb γ fun y => match x, y with | .lst u, .lst z => u.length + z.length ≤ 100000 ∧ P (u ++ z) | _, _ => False
theorem l_addL (ha : XE X b e1 Ta) (hb : XE X b e2 Tb) : XL X b (.BinOp e1 .Add e2 pos) (lAddL Ta Tb) := by
  obtain ⟨_, h1, h2⟩ := ha
  obtain ⟨_, g1, g2⟩ := hb
  refine ⟨_, pe_op op_cat h1 g1, fun P n t Q q => h2 _ n t _ fun v d F1 H1 x1 r1 t1 => g2 _ (n.to x1) t1 _ fun w e F2 H2 x2 r2 t2 => ?_⟩
  cases r1 <;> cases r2 <;> first | exact t2.elim | skip
  rename_i a1 l1 _ _ _ a2 l2
  have z := x1.trans x2
  exact ⟨_, _, _, _, rfl, rfl, x2.sub _ _ (x2.grow _ _ a1), x2.sub _ _ a2, Nat.le_trans (by rw [l1.length, l2.length]; exact t2.1) (by decide), fun p hp => q p _ _ F2 _ (z.trans (Ext.laid x2.ok hp)) (z.back n.ok hp) upd_same (x2.ok.fF hp) ((RepL.mono x2.grow l1).append l2) t2.2⟩
end
end DL

namespace Pf
open PySem PySem.Spec PyProof.Rows L2 DL
/-! what an event does -/
def valOf (rg : List Str) (vs : List Int) (a : Int) (s : Str) : Int := match (rg.zip vs).lookup s with | some v => v | none => if s = ("amount" : Str) then a else 1
def sumOf (rg : List Str) (vs : List Int) (a : Int) (ts : List (Str × Int)) : Int := (ts.map fun t => t.2 * valOf rg vs a t.1).sum
def freshL (rg : List Str) (vs : List Int) (a : Int) (cs : Chg) : List (Str × Int) := cs.foldl (fun acc c => putS c.1 (sumOf rg vs a c.2) acc) (rg.zip vs)
def newV (rg : List Str) (vs : List Int) (a : Int) (cs : Chg) : List Int := rg.map fun n => ((freshL rg vs a cs).lookup n).getD 0
def ruleAt (rs : List Rul) (m s : Str) : Option Rul := rs.find? fun r => decide (r.1 = m) && decide (r.2.1 = s)
def afterL (rg : List Str) (rs : List Rul) (q : Str × List Int) (ev : Str × Int) : Str × List Int := match ruleAt rs q.1 ev.1 with | some r => (r.2.2.1, newV rg q.2 ev.2 r.2.2.2) | none => q
def runL (rg : List Str) (rs : List Rul) (q : Str × List Int) (es : List (Str × Int)) : Str × List Int := es.foldl (afterL rg rs) q
@[reducible] def stD (q : Str × List Int) : Dt := .tup [.str q.1, .tup (q.2.map Dt.int)]
@[reducible] def evD (e : Str × Int) : Dt := .tup [.str e.1, .int e.2]
def kI (l : List (Str × Int)) : List (Str × Dt) := l.map fun p => (p.1, Dt.int p.2)
theorem plain_ne {n : Str} (h : plainName n) : n ≠ ("amount" : Str) ∧ n ≠ ("one" : Str) := by
  constructor
  · rintro rfl
    exact absurd h.2.1 (by decide +kernel)
  · rintro rfl
    have := h.2.2 111 (by decide +kernel)
    exact absurd this (by decide +kernel)
theorem kI_look (n : Str) : ∀ l : List (Str × Int), (kI l).lookup n = (l.lookup n).map Dt.int
  | [] => rfl
  | (k, v) :: l => by
    show ((k, Dt.int v) :: kI l).lookup n = _
    rw [List.lookup_cons, List.lookup_cons]
    cases n == k with
    | true => rfl
    | false => exact kI_look n l
theorem kI_put (n : Str) (z : Int) (l : List (Str × Int)) : putS n (Dt.int z) (kI l) = kI (putS n z l) := by
  unfold putS
  rw [kI_look]
  cases e : l.lookup n with
  | none =>
    show kI l ++ [(n, Dt.int z)] = kI (l ++ [(n, z)])
    unfold kI
    rw [List.map_append] <;> rfl
  | some v =>
    show (kI l).map _ = kI (l.map _)
    unfold kI
    rw [List.map_map, List.map_map]
    refine List.map_congr_left fun p _ => ?_
    show (if p.1 = n then (p.1, Dt.int z) else (p.1, Dt.int p.2)) = ((if p.1 = n then (p.1, z) else p).1, Dt.int (if p.1 = n then (p.1, z) else p).2)
    by_cases h : p.1 = n
    · rw [if_pos h, if_pos h]
    · rw [if_neg h, if_neg h]
theorem look_app {α : Type} (n : Str) : ∀ {l r : List (Str × α)}, l.lookup n = none → (l ++ r).lookup n = r.lookup n
  | [], _, _ => rfl
  | (k, v) :: l, r, h => by
    rw [List.lookup_cons] at h
    rw [List.cons_append, List.lookup_cons]
    cases e : n == k with
    | true => rw [e] at h; cases h
    | false => rw [e] at h; exact look_app n h
theorem look_none {α : Type} {n : Str} {l : List (Str × α)} (h : n ∉ l.map (·.1)) : l.lookup n = none := by
  induction l with
  | nil => rfl
  | cons p l ih =>
    obtain ⟨k, v⟩ := p
    rw [List.lookup_cons, beq_eq_false_iff_ne.mpr (fun e => h (by rw [e]; exact List.mem_cons_self))]
    exact ih fun q => h (List.mem_cons_of_mem _ q)
theorem zip_keys {rg : List Str} {vs : List Int} (h : vs.length = rg.length) : (rg.zip vs).map (·.1) = rg := by
  rw [List.map_fst_zip (by omega)]
theorem look_some {α : Type} {n : Str} : ∀ {l : List (Str × α)}, n ∈ l.map (·.1) → ∃ v, l.lookup n = some v
  | (k, v) :: l, h => by
    rw [List.lookup_cons]
    cases e : n == k with
    | true => exact ⟨v, rfl⟩
    | false =>
      rcases List.mem_cons.mp h with q | q
      · rw [show (n == k) = true from beq_iff_eq.mpr q] at e; cases e
      · exact look_some q
theorem put_keys {α : Type} {n : Str} {v : α} {l : List (Str × α)} (h : n ∈ l.map (·.1)) : (putS n v l).map (·.1) = l.map (·.1) := by
  obtain ⟨w, e⟩ := look_some h
  unfold putS
  rw [e]
  show (l.map _).map _ = _
  rw [List.map_map]
  refine List.map_congr_left fun p _ => ?_
  show (if p.1 = n then (p.1, v) else p).1 = p.1
  by_cases q : p.1 = n
  · rw [if_pos q]
  · rw [if_neg q]
theorem fresh_keys {rg : List Str} {vs : List Int} {a : Int} (hl : vs.length = rg.length) : ∀ {cs : Chg} {acc : List (Str × Int)}, (∀ c, c ∈ cs → c.1 ∈ rg) → acc.map (·.1) = rg → (cs.foldl (fun acc c => putS c.1 (sumOf rg vs a c.2) acc) acc).map (·.1) = rg
  | [], _, _, h => h
  | c :: cs, acc, hc, h => fresh_keys (cs := cs) hl (fun d hd => hc d (List.mem_cons_of_mem _ hd)) ((put_keys (by rw [h]; exact hc c List.mem_cons_self)).trans h)
theorem fresh_look {rg : List Str} {vs : List Int} {a : Int} {cs : Chg} {n : Str} (hl : vs.length = rg.length) (hc : ∀ c, c ∈ cs → c.1 ∈ rg) (hn : n ∈ rg) : (kI (freshL rg vs a cs)).lookup n = some (.int (((freshL rg vs a cs).lookup n).getD 0)) := by
  have h := fresh_keys (a := a) hl hc (zip_keys hl)
  obtain ⟨v, e⟩ := look_some (l := freshL rg vs a cs) (by unfold freshL; rw [h]; exact hn)
  rw [kI_look, e] <;> rfl
theorem fresh_step {rg : List Str} {vs : List Int} {a : Int} {cs : Chg} {i : Nat} {c : Str × List (Str × Int)} (h : cs[i]? = some c) : freshL rg vs a (cs.take (i + 1)) = putS c.1 (sumOf rg vs a c.2) (freshL rg vs a (cs.take i)) := by
  unfold freshL
  rw [List.take_add_one, h, List.foldl_append] <;> rfl
/-- what is known by name -/
theorem known_look {rg : List Str} {vs : List Int} {a : Int} {s : Str} (hl : vs.length = rg.length) (hp : ∀ y, y ∈ rg → plainName y) (hs : s ∈ rg ∨ s = ("amount" : Str) ∨ s = ("one" : Str)) :
    ([(("amount" : Str), Dt.int a), (("one" : Str), Dt.int 1)] ++ kI (rg.zip vs)).lookup s = some (.int (valOf rg vs a s)) ∧ (kI (rg.zip vs) ++ [(("amount" : Str), Dt.int a), (("one" : Str), Dt.int 1)]).lookup s = some (.int (valOf rg vs a s)) := by
  have hz := zip_keys hl
  unfold valOf
  rcases hs with hs | rfl | rfl
  · obtain ⟨n1, n2⟩ := plain_ne (hp s hs)
    obtain ⟨v, e⟩ := look_some (l := rg.zip vs) (by rw [hz]; exact hs)
    constructor
    · rw [List.cons_append, List.lookup_cons, beq_eq_false_iff_ne.mpr n1]
      show ((("one" : Str), Dt.int 1) :: kI (rg.zip vs)).lookup s = _
      rw [List.lookup_cons, beq_eq_false_iff_ne.mpr n2]
      show (kI (rg.zip vs)).lookup s = _
      rw [kI_look, e] <;> rfl
    · have e2 : (kI (rg.zip vs)).lookup s = some (.int v) := by rw [kI_look, e] <;> rfl
      have key : ∀ {l r : List (Str × Dt)} {w : Dt}, l.lookup s = some w → (l ++ r).lookup s = some w := fun {l r w} h => by
        induction l with
        | nil => cases h
        | cons p l ih =>
          obtain ⟨k, x⟩ := p
          rw [List.lookup_cons] at h
          rw [List.cons_append, List.lookup_cons]
          cases q : s == k with
          | true => rw [q] at h; exact h
          | false => rw [q] at h; exact ih h
      rw [key e2, e] <;> rfl
  · have e : (rg.zip vs).lookup ("amount" : Str) = none := look_none (by rw [hz]; exact fun q => (plain_ne (hp _ q)).1 rfl)
    rw [e]
    refine ⟨by rw [List.cons_append, List.lookup_cons, show (("amount" : Str) == ("amount" : Str)) = true from beq_self_eq_true _]; rfl, ?_⟩
    rw [look_app _ (by rw [kI_look, e] <;> rfl), List.lookup_cons, show (("amount" : Str) == ("amount" : Str)) = true from beq_self_eq_true _] <;> rfl
  · have e : (rg.zip vs).lookup ("one" : Str) = none := look_none (by rw [hz]; exact fun q => (plain_ne (hp _ q)).2 rfl)
    rw [e]
    have ne : (("one" : Str) == ("amount" : Str)) = false := by decide +kernel
    have ne2 : ¬ (("one" : Str) = ("amount" : Str)) := by decide +kernel
    refine ⟨by rw [List.cons_append, List.lookup_cons, ne]; show ((("one" : Str), Dt.int 1) :: kI (rg.zip vs)).lookup ("one" : Str) = _; rw [List.lookup_cons, beq_self_eq_true]; simp only [if_neg ne2], ?_⟩
    rw [look_app _ (by rw [kI_look, e] <;> rfl), List.lookup_cons, ne]
    show ([(("one" : Str), Dt.int 1)]).lookup ("one" : Str) = _
    rw [List.lookup_cons, beq_self_eq_true]
    simp only [if_neg ne2]
theorem nodup_take {α : Type} {l : List α} (h : l.Nodup) {i : Nat} {x : α} (e : l[i]? = some x) : x ∉ l.take i := fun hm => by
  obtain ⟨j, hj⟩ := List.getElem?_of_mem hm
  rw [List.getElem?_take] at hj
  split at hj
  · rename_i hlt
    have := (List.getElem?_inj (List.getElem?_eq_some_iff.mp hj).1 h).mp (hj.trans e.symm)
    omega
  · cases hj
theorem zip_take_key {rg : List Str} {vs : List Int} {i : Nat} {p : Str × Int} (hl : vs.length = rg.length) (nd : rg.Nodup) (e : (rg.zip vs)[i]? = some p) : p.1 ∉ ((rg.zip vs).take i).map (·.1) := by
  rw [List.map_take, zip_keys hl]
  refine nodup_take nd ?_
  have := congrArg (·[i]?) (zip_keys (vs := vs) hl)
  simp only [List.getElem?_map, e] at this
  exact this.symm
theorem zip_key_mem {rg : List Str} {vs : List Int} {i : Nat} {p : Str × Int} (e : (rg.zip vs)[i]? = some p) : p.1 ∈ rg := (List.of_mem_zip (List.mem_of_getElem? e)).1
/-- the program's dict of what is known, one register more -/
theorem known_step {rg : List Str} {vs : List Int} {a : Int} {i : Nat} {p : Str × Int} (hl : vs.length = rg.length) (nd : rg.Nodup) (hp : ∀ y, y ∈ rg → plainName y) (e : (rg.zip vs)[i]? = some p) :
    putS p.1 (Dt.int p.2) ([(("amount" : Str), Dt.int a), (("one" : Str), Dt.int 1)] ++ kI ((rg.zip vs).take i)) = [(("amount" : Str), Dt.int a), (("one" : Str), Dt.int 1)] ++ kI ((rg.zip vs).take (i + 1)) := by
  obtain ⟨n1, n2⟩ := plain_ne (hp _ (zip_key_mem e))
  rw [putS_new (look_none (fun hm => by
    rw [List.map_append] at hm
    rcases List.mem_append.mp hm with q | q
    · rcases List.mem_cons.mp q with q | q
      · exact n1 q
      · exact n2 (List.mem_singleton.mp q)
    · refine zip_take_key hl nd e ?_
      unfold kI at q
      rw [List.map_map] at q
      exact q)), List.append_assoc, List.take_add_one, e]
  unfold kI
  rw [List.map_append] <;> rfl
theorem zips_step {rg : List Str} {vs : List Int} {i : Nat} {p : Str × Int} (hl : vs.length = rg.length) (nd : rg.Nodup) (e : (rg.zip vs)[i]? = some p) :
    putS p.1 (Dt.int p.2) (kI ((rg.zip vs).take i)) = kI ((rg.zip vs).take (i + 1)) := by
  rw [putS_new (look_none (fun q => by
    refine zip_take_key hl nd e ?_
    unfold kI at q
    rw [List.map_map] at q
    exact q)), List.take_add_one, e]
  unfold kI
  rw [List.map_append] <;> rfl
theorem merge_step {α : Type} : ∀ (l : List (Str × α)) (acc : List (Str × α)), ((acc ++ l).map (·.1)).Nodup → l.foldl (fun acc p => putS p.1 p.2 acc) acc = acc ++ l
  | [], acc, _ => (List.append_nil acc).symm
  | p :: l, acc, h => by
    have hn : p.1 ∉ acc.map (·.1) := fun q => by
      rw [List.map_append] at h
      exact (List.nodup_append.mp h).2.2 _ q _ (by rw [List.map_cons]; exact List.mem_cons_self) rfl
    show l.foldl _ (putS p.1 p.2 acc) = _
    rw [putS_new (look_none hn), merge_step l (acc ++ [(p.1, p.2)]) (by rw [List.append_assoc]; exact h), List.append_assoc] <;> rfl
theorem merge_zip {rg : List Str} {vs : List Int} (hl : vs.length = rg.length) (nd : rg.Nodup) : mergeS (kI (rg.zip vs)) = kI (rg.zip vs) := by
  unfold mergeS
  rw [merge_step _ [] (by
    rw [List.nil_append]
    unfold kI
    rw [List.map_map]
    show ((rg.zip vs).map (·.1)).Nodup
    rw [zip_keys hl]; exact nd), List.nil_append]
theorem puts_late {rg : List Str} {vs : List Int} {a : Int} (hl : vs.length = rg.length) (hp : ∀ y, y ∈ rg → plainName y) : putS ("one" : Str) (Dt.int 1) (putS ("amount" : Str) (Dt.int a) (kI (rg.zip vs))) = kI (rg.zip vs) ++ [(("amount" : Str), Dt.int a), (("one" : Str), Dt.int 1)] := by
  have hz := zip_keys hl
  have e1 : (kI (rg.zip vs)).lookup ("amount" : Str) = none := by
    rw [kI_look, look_none (l := rg.zip vs) (by rw [hz]; exact fun q => (plain_ne (hp _ q)).1 rfl)] <;> rfl
  have e2 : (kI (rg.zip vs)).lookup ("one" : Str) = none := by
    rw [kI_look, look_none (l := rg.zip vs) (by rw [hz]; exact fun q => (plain_ne (hp _ q)).2 rfl)] <;> rfl
  rw [putS_new e1, putS_new (by rw [look_app _ e2, List.lookup_cons, show (("one" : Str) == ("amount" : Str)) = false from by decide +kernel]; rfl), List.append_assoc] <;> rfl
theorem rule_look (rs : List Rul) (m s : Str) : (lookT (ruleFor rs) [Sum.inr m, Sum.inr s]) = (ruleAt rs m s).map ruleD := by
  unfold lookT ruleAt ruleFor
  induction rs with
  | nil => rfl
  | cons r rs ih =>
    rw [List.map_cons]
    have ek : decide (([Sum.inr r.1, Sum.inr r.2.1] : List Key) = [Sum.inr m, Sum.inr s]) = (decide (r.1 = m) && decide (r.2.1 = s)) := by
      by_cases h1 : r.1 = m <;> by_cases h2 : r.2.1 = s <;> simp [h1, h2]
    rw [List.find?_cons, List.find?_cons]
    show Option.map _ (match decide (([Sum.inr r.1, Sum.inr r.2.1] : List Key) = [Sum.inr m, Sum.inr s]) with | true => some ([Sum.inr r.1, Sum.inr r.2.1], ruleD r) | false => _) = _
    rw [ek]
    cases (decide (r.1 = m) && decide (r.2.1 = s)) with
    | true => rfl
    | false => exact ih
theorem newV_len {rg : List Str} {vs : List Int} {a : Int} {cs : Chg} : (newV rg vs a cs).length = rg.length := List.length_map ..
theorem afterL_len {rg : List Str} {rs : List Rul} {q : Str × List Int} {e : Str × Int} (h : q.2.length = rg.length) : (afterL rg rs q e).2.length = rg.length := by
  unfold afterL
  cases ruleAt rs q.1 e.1 with
  | none => exact h
  | some r => exact newV_len
theorem runL_step {rg : List Str} {rs : List Rul} {q : Str × List Int} {es : List (Str × Int)} {i : Nat} {e : Str × Int} (h : es[i]? = some e) : runL rg rs q (es.take (i + 1)) = afterL rg rs (runL rg rs q (es.take i)) e := by
  unfold runL
  rw [List.take_add_one, h, List.foldl_append] <;> rfl
theorem runL_len {rg : List Str} {rs : List Rul} {q : Str × List Int} (h : q.2.length = rg.length) : ∀ es : List (Str × Int), (runL rg rs q es).2.length = rg.length := fun es => by
  unfold runL
  induction es generalizing q with
  | nil => exact h
  | cons e es ih => exact ih (afterL_len h)
theorem look_at {α : Type} {n : Str} {v : α} : ∀ {l : List (Str × α)} {i : Nat}, (l.map (·.1)).Nodup → l[i]? = some (n, v) → l.lookup n = some v
  | [], _, _, e => by cases e
  | (k, x) :: l, 0, _, e => by
    cases e
    rw [List.lookup_cons, beq_self_eq_true]
  | (k, x) :: l, i + 1, h, e => by
    have e2 : l[i]? = some (n, v) := e
    have hk := (List.nodup_cons.mp h).1
    rw [List.lookup_cons, beq_eq_false_iff_ne.mpr (fun q => hk (by rw [← q]; exact List.mem_map.mpr ⟨_, List.mem_of_getElem? e2, rfl⟩))]
    exact look_at (List.nodup_cons.mp h).2 e2
theorem val_at {rg : List Str} {vs : List Int} {a : Int} {i : Nat} {n : Str} (hl : vs.length = rg.length) (nd : rg.Nodup) (e : rg[i]? = some n) : (rg.zip vs)[i]? = some (n, valOf rg vs a n) := by
  obtain ⟨h, he⟩ := List.getElem?_eq_some_iff.mp e
  have e2 : (rg.zip vs)[i]? = some (n, vs[i]'(by omega)) := by
    rw [List.getElem?_zip_eq_some]
    exact ⟨e, List.getElem?_eq_getElem _⟩
  unfold valOf
  rw [e2, look_at (by rw [zip_keys hl]; exact nd) e2]
theorem kI_len (l : List (Str × Int)) : (kI l).length = l.length := List.length_map ..
theorem kI_no (l : List (Str × Int)) : ((kI l).all fun p => noObj p.2) = true := by
  unfold kI
  rw [List.all_map]
  exact List.all_eq_true.mpr fun _ _ => rfl
theorem noObj_ints : ∀ zs : List Int, noObj (.tup (zs.map Dt.int)) = true
  | [] => rfl
  | z :: zs => by
    show (true && noObj (.tup (zs.map Dt.int))) = true
    rw [noObj_ints zs] <;> rfl
theorem noObj_st (q : Str × List Int) : noObj (stD q) = true := by
  show (true && (noObj (.tup (q.2.map Dt.int)) && true)) = true
  rw [noObj_ints] <;> rfl
theorem fresh_len {rg : List Str} {vs : List Int} {a : Int} {cs : Chg} (hl : vs.length = rg.length) (hc : ∀ c, c ∈ cs → c.1 ∈ rg) : (freshL rg vs a cs).length = rg.length := by
  have h := congrArg List.length (fresh_keys (a := a) hl hc (zip_keys hl))
  rw [List.length_map] at h
  exact h
theorem terms_len {rg : List Str} {ts : List (Str × Int)} (h : GoodT rg ts) : ts.length ≤ rg.length + 2 := by
  have := len_of_sub (l := rg ++ [("amount" : Str), ("one" : Str)]) h.1 fun x hx => by
    obtain ⟨t, ht, rfl⟩ := List.mem_map.mp hx
    rcases (h.2 t ht).1 with q | q | q
    · exact List.mem_append_left _ q
    · rw [q]; exact List.mem_append_right _ List.mem_cons_self
    · rw [q]; exact List.mem_append_right _ (List.mem_cons_of_mem _ List.mem_cons_self)
  rw [List.length_map, List.length_append] at this
  exact this
theorem event_is {sg : List Str} {y : Dt} (h : eventD sg y = true) : ∃ (s : Str) (a : Int), y = evD (s, a) ∧ s ∈ sg := by
  cases y with
  | tup xs =>
    rcases xs with _ | ⟨x, _ | ⟨z, _ | ⟨c, r⟩⟩⟩
    · cases h
    · cases h
    · have h : (memD sg x && integerD (-1000000000000) 1000000000000 z) = true := h
      obtain ⟨h1, h2⟩ := Bool.and_eq_true_iff.mp h
      cases x with
      | str s =>
        cases z with
        | int a => exact ⟨s, a, rfl, of_decide_eq_true h1⟩
        | _ => cases h2
      | _ => cases h1
    · cases h
  | _ => cases h
theorem events_are {sg : List Str} : ∀ {ys : List Dt}, (∀ y, y ∈ ys → eventD sg y = true) → ∃ es : List (Str × Int), ys = es.map evD
  | [], _ => ⟨[], rfl⟩
  | y :: ys, h => by
    obtain ⟨s, a, rfl, _⟩ := event_is (h y List.mem_cons_self)
    obtain ⟨es, e⟩ := events_are fun z hz => h z (List.mem_cons_of_mem _ hz)
    exact ⟨(s, a) :: es, by rw [e] <;> rfl⟩
theorem evOk_of (s : Str) (a : Int) : evOk (evD (s, a)) := ⟨rfl, fun _ _ e => by cases e; exact ⟨rfl, rfl⟩⟩
theorem eventD_of {sg : List Str} {s : Str} {a : Int} (h : s ∈ sg) (a0 : -1000000000000 ≤ a) (a1 : a ≤ 1000000000000) : eventD sg (evD (s, a)) = true := by
  show (decide (s ∈ sg) && (decide (-1000000000000 ≤ a) && decide (a ≤ 1000000000000))) = true
  rw [decT h, decT a0, decT a1] <;> rfl
theorem okS_strs {zs : List Str} (h : zs.length ≤ 100000) : okS (.lst (zs.map Dt.str)) = true := by
  show (decide ((zs.map Dt.str).length ≤ 100000) && okSL (zs.map Dt.str)) = true
  rw [decT (by rw [List.length_map]; exact h), okSL_map (fun _ => rfl)] <;> rfl
theorem okSL_all : ∀ {l : List Dt}, (∀ x, x ∈ l → okS x = true) → okSL l = true
  | [], _ => rfl
  | x :: l, h => by
    show (okS x && okSL l) = true
    rw [h x List.mem_cons_self, okSL_all fun y hy => h y (List.mem_cons_of_mem _ hy)] <;> rfl
theorem okT_of {l : List Dt} (hl : l.length ≤ 100000) (h : ∀ x, x ∈ l → okS x = true) : okS (.tup l) = true := by
  show (decide (l.length ≤ 100000) && okSL l) = true
  rw [decT hl, okSL_all h] <;> rfl
theorem okL_of {l : List Dt} (hl : l.length ≤ 100000) (h : ∀ x, x ∈ l → okS x = true) : okS (.lst l) = true := by
  show (decide (l.length ≤ 100000) && okSL l) = true
  rw [decT hl, okSL_all h] <;> rfl
theorem dep_strs (zs : List Str) : dep (.lst (zs.map Dt.str)) ≤ 2 := dep_lst.mpr fun x hx => by
  obtain ⟨i, _, rfl⟩ := List.mem_map.mp hx
  rw [dep_str] <;> decide
theorem dep_rule (r : Rul) : dep (ruleD r) ≤ 6 := dep_tup.mpr fun x hx => by
  simp only [List.mem_cons, List.not_mem_nil, or_false] at hx
  rcases hx with rfl | rfl | rfl | rfl
  · rw [dep_str] <;> decide
  · rw [dep_str] <;> decide
  · rw [dep_str] <;> decide
  · refine dep_tup.mpr fun x hx => ?_
    obtain ⟨c, _, rfl⟩ := List.mem_map.mp hx
    refine dep_tup.mpr fun x hx => ?_
    simp only [List.mem_cons, List.not_mem_nil, or_false] at hx
    rcases hx with rfl | rfl
    · rw [dep_str] <;> decide
    · refine dep_tup.mpr fun x hx => ?_
      obtain ⟨t, _, rfl⟩ := List.mem_map.mp hx
      refine dep_tup.mpr fun x hx => ?_
      simp only [List.mem_cons, List.not_mem_nil, or_false] at hx
      rcases hx with rfl | rfl
      · rw [dep_str] <;> decide
      · rw [dep_int] <;> decide
theorem okS_rule {rg : List Str} {r : Rul} (h : GoodC rg r.2.2.2) (hr : rg.length ≤ 1000) : okS (ruleD r) = true := by
  refine okT_of (Nat.le_of_ble_eq_true rfl) fun x hx => ?_
  simp only [List.mem_cons, List.not_mem_nil, or_false] at hx
  rcases hx with rfl | rfl | rfl | rfl
  · rfl
  · rfl
  · rfl
  · refine okT_of (by rw [List.length_map]; exact Nat.le_trans h.len (by omega)) fun x hx => ?_
    obtain ⟨c, hc, rfl⟩ := List.mem_map.mp hx
    refine okT_two rfl (okT_of (by rw [List.length_map]; exact Nat.le_trans (terms_len (h.2 c hc).2) (by omega)) fun x hx => ?_)
    obtain ⟨t, _, rfl⟩ := List.mem_map.mp hx
    exact okT_two rfl rfl
theorem okS_rules {W S : Int} {ms rg sg : List Str} {rs : List Rul} (hG : GoodS W S ms rg sg rs) (hr : rs.length ≤ 1000) : okS (.lst (rs.map ruleD)) = true := okL_of (by rw [List.length_map]; omega) fun x hx => by
  obtain ⟨r, h, rfl⟩ := List.mem_map.mp hx
  have := hG.r1
  exact okS_rule (hG.good r h).2.2.2 (by omega)
theorem dep_rules (rs : List Rul) : dep (.lst (rs.map ruleD)) ≤ 7 := dep_lst.mpr fun x hx => by
  obtain ⟨r, _, rfl⟩ := List.mem_map.mp hx
  exact dep_rule r
theorem rules_len {W S : Int} {ms rg sg : List Str} {rs : List Rul} (hG : GoodS W S ms rg sg rs) : rs.length ≤ ms.length * sg.length := by
  have e : ∀ (xs ys : List Str), (xs.flatMap fun x => ys.map fun y => (x, y)).length = xs.length * ys.length := fun xs ys => by
    induction xs with
    | nil => simp
    | cons x xs ih => rw [List.flatMap_cons, List.length_append, ih, List.length_map, List.length_cons, Nat.succ_mul]; omega
  have := len_of_sub (l := ms.flatMap fun x => sg.map fun y => (x, y)) hG.un fun x hx => by
    obtain ⟨r, hr, rfl⟩ := List.mem_map.mp hx
    obtain ⟨h1, h2, _⟩ := hG.good r hr
    exact List.mem_flatMap.mpr ⟨r.1, h1, List.mem_map.mpr ⟨r.2.1, h2, rfl⟩⟩
  rw [List.length_map, e] at this
  exact this
theorem enumD_zip (ys : List Dt) : enumD ys = ys.zipIdx.map fun p => .tup [.int (p.2 : Nat), p.1] := by
  have := enumD_map (as := ys) (g := fun d => d)
  rw [List.map_id'] at this
  exact this
theorem zipIdx_at {α : Type} {ys : List α} {i k : Nat} {y : α} (h : ys.zipIdx[i]? = some (y, k)) : k = i ∧ ys[i]? = some y := by
  rw [List.getElem?_zipIdx] at h
  cases e : ys[i]? with
  | none => rw [e] at h; cases h
  | some z =>
    rw [e] at h
    simp at h
    exact ⟨h.2.symm, by rw [h.1]⟩
end Pf
namespace DL
open PySem PySem.Spec PyProof.Rows L2
section
variable (P : Program) (w : World) (K : PySem.W.Frag) (mg : Str → Option Value) (base : Heap) (b : Bg) (k : Nat) (xs : List Value) (cs : Codes)
/-- what a row of deeds tells, each by itself -/
def whysT : DSp := fun ds Q => ∃ items : List ((Lam × List (Str × Dt)) × Dt), ds = [.lst (items.map fun p => .clo p.1.1 p.1.2)] ∧ items.length ≤ 100 ∧ (∀ p, p ∈ items → whyT P w K mg base b k xs cs [.clo p.1.1 p.1.2] fun d => d = p.2) ∧ Q (.lst (items.map (·.2)))
end
end DL

namespace DL
open PySem PySem.Spec PyProof.Rows L2
/-! own errors whose built-in class is any: their making, their fields -/
structure OexG (K : PySem.W.Frag) (bB : List Value) (nid : String) (C : Addr) : Prop where
  cls : ∃ nm q N bs bm sn sub ab col dd k0 k1 k2 k3 k5, K.lookup C = some (excClassObj nm q C N bs bm true sn sub ab col dd k0 k1 k2 k3 k5 nid) ∧ PySem.W.excTail bB bm = true
  sa : PySem.W.findIn K (.ref C) "__setattr__" = some (some (.builtin "object.__setattr__"))
  exC : PySem.W.subIn K (.ref C) (.type "BaseException") = some true
  tyC : PySem.W.typeIn K (.ref C) = some (.type "type")
  kC : PySem.W.keepIn K (.ref C) = true
section
variable {bB : List Value} {nid iid B : String}
variable {X : Cx} {pins : List (Addr × Obj)} {σ : L2.St} {H : Hp} {s : Shared} {a C dx : Addr} {f : Str} {y : V} {u : Value} {fs : List (Str × V)} {Q : Unit → Shared → Prop} {E : Value → Shared → Prop} {A : Around}
theorem OexG.data {K : PySem.W.Frag} (T : OexG K bB nid C) : ∃ cd, PySem.W.clsIn K C = some cd ∧ cd.hasDict = true ∧ PySem.W.excOver K C bB = true := by
  obtain ⟨nm, q, N, bs, bm, sn, sub, ab, col, dd, k0, k1, k2, k3, k5, hC, hbm⟩ := T.cls
  have hcl : PySem.W.clsIn K C = some { name := nm, bases := bs, mro := .ref C :: bm, ns := N, qualname := q, hasDict := true, slotNames := sn, subclasses := sub, abstract := ab, collection := col, hasDel := false } := by
    unfold PySem.W.clsIn
    rw [hC] <;> rfl
  refine ⟨_, hcl, rfl, ?_⟩
  unfold PySem.W.excOver
  rw [hcl]
  show ((C == C) && PySem.W.excTail bB bm) = true
  rw [hbm, beq_self_eq_true] <;> rfl
theorem taker_none {K : PySem.W.Frag} {C : Addr} {f : Str} (h : PySem.W.findIn K (.ref C) f = some none) : PySem.W.takerIn K C f = some none := by
  unfold PySem.W.takerIn
  rw [h] <;> rfl
theorem gst_new (SF : StoreFacts B bB "object.__setattr__" "object") (T : OexG X.K bB nid C) (I : Inv X pins σ H s) (e : H a = some (exo a C none)) (hno : PySem.W.findIn X.K (.ref C) f = some none) (ry : RelV y u)
    (h : ∀ dx s', H dx = none → dx ≠ a → Inv X pins σ (upd (upd H dx (exd dx [(f, y)])) a (exo a C (some dx))) s' → Q () s') : wpAny (model X.prog X.w) A (setAttr (.ref a) f u) Q E s := by
  obtain ⟨cd, hcl, hcd, hov⟩ := T.data
  obtain ⟨t1, ho⟩ := exo_at I.hok e
  obtain ⟨hp, g, d, t, os⟩ := s
  have at1 : PySem.W.InstAt hp a { cls := .ref C, dict := none, data := .fields #[.ref t1, .none, .none, .none, .bool false, .none] } C none := ⟨ho, rfl, rfl, trivial⟩
  refine PySem.W.set_plain I.kIn at1 T.sa ?_
  refine PySem.W.osa_openX (s := ⟨hp, g, d, t + 1, os⟩) SF I.kIn at1 hov (taker_none hno) fun b => ?_
  refine wpAny_bind (wpAny_pure (wpAny_bind (PySem.W.instanceDict_exc (s := ⟨hp, g, d, t + 1, os⟩) (C := C) (t := t1) (c2 := .none) ho (PySem.W.looks_clsIn I.kIn hcl) hcd ?_)))
  have far : a ≠ hp.objs.size := Nat.ne_of_lt (Heap.lt_size ho)
  have empty : ((hp.push (PySem.W.dictOf [] 0)).update a fun o => { o with dict := some hp.objs.size }).Ns1 hp.objs.size (fun _ => none) :=
    ⟨_, #[], _, (Heap.get?_update_other _ _ far).trans (Heap.get?_push_size _ rfl), rfl, fun z hz => absurd hz (by simp), by simp [UniqKeys], fun _ => rfl⟩
  have none_in : Within (fun _ : Str => (none : Option Value)) [] := fun z hz => absurd rfl hz
  show wpAny _ _ (Builtin.ObjectAttr.storeInDict hp.objs.size (.str f t) f u) _ _ _
  refine PySem.OEX.store_in_old empty none_in (Nat.zero_le _) fun h' tk' filled same => ?_
  have kept : ∀ c o, c ≠ a → hp.get? c = some o → h'.get? c = some o := fun c o hc q => by
    have lt := Heap.lt_size q
    exact (same.2 c (Nat.ne_of_lt lt)).trans ((Heap.get?_update_other _ _ (Ne.symm hc)).trans (Heap.get?_push_of_some _ q))
  have now : h'.get? a = some { cls := .ref C, dict := some hp.objs.size, data := .fields #[.ref t1, .none, .none, .none, .bool false, .none] } :=
    (same.2 a far).trans (Heap.get?_update_self _ (Heap.get?_push_of_some _ ho) rfl)
  have nD : H hp.objs.size = none := I.hok.fresh (Nat.le_refl _)
  have other : ∀ {c : Addr} {v : HO}, H c = some v → c ≠ hp.objs.size := fun q => ne_of_none q nD
  have absent : ∀ {c : Addr}, H c = none → c ≠ a := fun q z => by subst z; rw [e] at q; cases q
  have old : ∀ {c : Addr} {v : HO}, H c = some v → c ≠ a → upd (upd H hp.objs.size (exd hp.objs.size [(f, y)])) a (exo a C (some hp.objs.size)) c = some v := fun q hc => by
    rw [upd_ne hc, upd_ne (other q)]
    exact q
  have walk : Un X.fs [] H (upd (upd H hp.objs.size (exd hp.objs.size [(f, y)])) a (exo a C (some hp.objs.size))) hp h' := by
    constructor
    · exact fun c o q n _ _ => kept c o (absent n) q
    · exact fun c o q n _ _ => ⟨o.slots, kept c o (absent n) q⟩
    · intro c o q n _
      rw [upd_ne (absent n), upd_ne (Nat.ne_of_lt (Heap.lt_size q))]
      exact n
    · intro c o q _
      by_cases hc : c = a
      · exact ⟨_, hc ▸ now⟩
      · exact ⟨o, kept c o hc q⟩
    · exact fun c xs q => old q (at_ne e q exo_tup)
    · exact fun c o v q => old q (at_ne e q exo_frz)
    · exact fun c ps q => ⟨#[], by rw [Array.append_empty]; exact old q (at_ne e q exo_tbl)⟩
  refine h hp.objs.size ⟨h', g, d, tk', os⟩ nD (Ne.symm far) (I.un (t' := tk') walk fun c o q => ?_)
  by_cases hc : c = a
  · subst hc
    rw [upd_same] at q
    cases q
    exact exo_ok now
  rw [upd_ne hc] at q
  by_cases hd : c = hp.objs.size
  · subst hd
    rw [upd_same] at q
    cases q
    exact exd_ok filled (relO_put (fs := []) ry fun _ => True.intro)
  rw [upd_ne hd] at q
  refine (I.hok c o q).stay (fun b v hb z => kept b v ?_ z) (fun b hb => old hb (at_ne e hb exo_own)) fun b xs hb => old hb (at_ne e hb exo_tup)
  rcases hb with hb | hb
  · exact hb ▸ hc
  · exact at_ne e hb exo_own
theorem gst_old (SF : StoreFacts B bB "object.__setattr__" "object") (T : OexG X.K bB nid C) (I : Inv X pins σ H s) (e : H a = some (exo a C (some dx))) (ed : H dx = some (exd dx fs)) (hl : fs.length ≤ 900) (hno : PySem.W.findIn X.K (.ref C) f = some none) (ry : RelV y u)
    (h : ∀ s', Inv X pins σ (upd H dx (exd dx ((f, y) :: fs))) s' → Q () s') : wpAny (model X.prog X.w) A (setAttr (.ref a) f u) Q E s := by
  obtain ⟨cd, hcl, hcd, hov⟩ := T.data
  obtain ⟨t1, ho⟩ := exo_at I.hok e
  obtain ⟨mA, hns, rel⟩ := exd_at I.hok ed
  have hw := within_of rel
  obtain ⟨hp, g, d, t, os⟩ := s
  obtain ⟨oD, _, _, hoD, _, _⟩ := hns.count hw
  have at1 : PySem.W.InstAt hp a { cls := .ref C, dict := some dx, data := .fields #[.ref t1, .none, .none, .none, .bool false, .none] } C (some oD) := ⟨ho, rfl, rfl, hoD⟩
  refine PySem.W.set_plain I.kIn at1 T.sa ?_
  refine PySem.W.osa_openX (s := ⟨hp, g, d, t + 1, os⟩) SF I.kIn at1 hov (taker_none hno) fun b => ?_
  refine wpAny_bind (wpAny_pure (wpAny_bind ?_))
  unfold Builtin.ObjectAttr.ownDictForStores
  refine wpAny_bind (wpAny_loadPart ho ?_)
  dsimp only
  have kin : X.K.In hp := I.kIn
  refine wpAny_bind ((PySem.W.looks_clsIn kin hcl).here ?_)
  rw [hcd]
  refine wpAny_pure ?_
  show wpAny _ _ (Builtin.ObjectAttr.storeInDict dx (.str f t) f u) _ _ _
  refine PySem.OEX.store_in_old hns hw (by rw [List.length_map]; omega) fun h' tk' filled same => ?_
  have there : ∃ o, h'.get? dx = some o := by
    obtain ⟨o, _, _, q, _⟩ := filled
    exact ⟨o, q⟩
  have J := I.write (t' := tk') (x := dx) (e := dx) (o := exd dx ((f, y) :: fs)) (by rw [ed]; exact True.intro) (.inl rfl) (fun c o hc q => (same.2 c hc).trans q) there (exd_ok filled (relO_put ry rel))
  exact h _ J
/-- self.f = e, self an error that is being made -/
def tGst (K : PySem.W.Frag) (bB : List Value) (nid : String) (f : Str) (to te : TE) : TS := fun D σ H => te σ H fun y H1 => to σ H1 fun x H2 => ∃ a C : Addr, x = .ref a ∧ OexG K bB nid C ∧ PySem.W.findIn K (.ref C) f = some none ∧
  ((H2 a = some (exo a C none) ∧ ∀ dx, H2 dx = none → dx ≠ a → D.nx σ (upd (upd H2 dx (exd dx [(f, y)])) a (exo a C (some dx)))) ∨
    ∃ (dx : Addr) (fs : List (Str × V)), H2 a = some (exo a C (some dx)) ∧ H2 dx = some (exd dx fs) ∧ fs.length ≤ 900 ∧ D.nx σ (upd H2 dx (exd dx ((f, y) :: fs))))
theorem ps_gst {o e : Expr} {to te : TE} {p' pos : Pos} (SF : StoreFacts B bB "object.__setattr__" "object") (ho : PE X o to) (he : PE X e te) (hs : swapsWith e (some (.Attribute o f p')) pos.line X.env = pure false := by rfl) : PS X (.Assign [.Attribute o f p'] e pos) (tGst X.K bB nid f to te) := by
  constructor
  intro pins s σ H D I h
  refine plainObj_wpAny_Assign_Attribute (thn (he.run pins s σ H _ I h) fun v s1 ⟨y, H1, I1, r1, q1⟩ => thn (ho.run pins s1 σ H1 _ I1 q1) fun u s2 ⟨x, H2, I2, r2, z⟩ => ?_) hs
  obtain ⟨a, C, rfl, T, hno, q⟩ := z
  cases (show u = Value.ref a from r2)
  cases q with
  | inl q => exact gst_new SF T I2 q.1 hno r1 fun dx s' n ne J => ⟨σ, _, J, q.2 dx n ne⟩
  | inr q =>
    obtain ⟨dx, fs, ea, ed, hl, q⟩ := q
    exact gst_old SF T I2 ea ed hl hno r1 fun s' J => ⟨σ, _, J, q⟩
/-- C(e, ..), an own error -/
theorem pmk_gex {x : Str} {e : Expr} {es : List Expr} {p pos : Pos} {ta : TA} {C fI : Addr} {k : Nat} {fd : FuncData} {ps : List Str} {sp : Sp} (FB : ExcBaseFacts B nid iid bB) (T : OexG X.K bB nid C) (iC : PySem.W.findIn X.K (.ref C) "__init__" = some (some (.ref fI)))
    (tI : PySem.W.typeIn X.K (.ref fI) = some (.type "function")) (F1 : FnOk X.prog X.w X.K X.mg X.base CX0 k fI fd ps sp) (hr : Room (k + 1) X.A) (hb : Binds X.K fd ps []) (hg : Gl X x) (hm : X.mg x = some (.ref C)) (ha : PA X (e :: es) ta)
    (hdb : (x == ("__debug__" : Str)) = false := by decide) (he : starEach (e :: es) X.env = (false, eval e X.env) :: starEach es X.env := by rfl) (hpl : (backTo pos (starEach es X.env)).any (·.1) = false := by rfl) :
    PMk X (.Call (.Name x p) (e :: es) [] pos) (tMkO C sp [] ta) := by
  intro pins s σ H Q I h
  obtain ⟨nm, q, N, bs, bm, sn, sub, ab, col, dd, k0, k1, k2, k3, k5, hC, hbm⟩ := T.cls
  refine wpAny_Call_Name_kw (ld_glob I hg hm ?_ hdb)
  refine PySem.W.callWith_K (h₀ := X.base) I.ok.mod.kin T.kC (thn (ha.run pos pins s σ H _ I h) fun us s1 ⟨vs, H1, I1, r1, many, promise⟩ => ⟨I1.kIn, ?_⟩) he hpl
  show wpAny _ _ (call (.ref C) us) _ _ _
  obtain ⟨hp, g, dr, tk, os⟩ := s1
  have big : hp.objs.size ≤ hp.objs.size + 1 := Nat.le_succ _
  have prom := promise (hp.objs.size + 1) (I1.hok.fresh big)
  have stay : ∀ b o, hp.get? b = some o → ((hp.push (PySem.W.kdv_tup us)).push (PySem.HandSPX.excO C hp.objs.size)).get? b = some o :=
    fun b o e => Heap.get?_push_of_some _ (Heap.get?_push_of_some _ e)
  have made : ((hp.push (PySem.W.kdv_tup us)).push (PySem.HandSPX.excO C hp.objs.size)).get? (hp.objs.size + 1) = some (PySem.HandSPX.excO C hp.objs.size) := by heap_get
  have I2 := I1.laid (t' := tk) (a := hp.objs.size + 1) (o := exo (hp.objs.size + 1) C none)
    (h' := (hp.push (PySem.W.kdv_tup us)).push (PySem.HandSPX.excO C hp.objs.size)) stay big (exo_ok made)
  rw [List.append_nil] at prom
  have args : Vals (V.ref (hp.objs.size + 1) :: vs) (Value.ref (hp.objs.size + 1) :: us) := .cons rfl r1
  have cnt : (Value.ref (hp.objs.size + 1) :: us ++ []).length = ps.length := by
    rw [List.append_nil, ← args.length]
    exact F1.len _ _ _ _ prom
  have few : us.length ≤ sizeLine := by
    rw [← Paired.length r1, sizeLine_eq]
    omega
  have bnd := hb _ (Value.ref (hp.objs.size + 1) :: us) I2.kIn cnt
  rw [List.append_nil] at bnd
  refine wpAny_call (PySem.HandSPX.call_own FB (fun Y => PySem.W.excTail_contains Y bm hbm) (I1.kIn _ _ hC) (PySem.W.looks_findIn I1.kIn iC)
    (fun self => PySem.W.bind_fn I1.kIn self tI) few
    (codeAny_mono (F1.run _ X.stack _ _ ⟨Value.ref (hp.objs.size + 1) :: us, []⟩ (Value.ref (hp.objs.size + 1) :: us) _ _ (fun _ _ _ => False)
      (hr.make C us []) (I2.env0.make C us []) bnd args prom) fun r s' back => ?_))
  cases r with
  | error er => exact pass0 pins σ _ _ er s' I2 back
  | ok fl =>
    cases fl with
    | ret u =>
      obtain ⟨v, H2, os2, bare2, un2, hok2, rv, ev, d, fs, ea, ed, hd1, q2⟩ := back
      subst ev
      obtain ⟨h2, g2, d2, t2, os'⟩ := s'
      exact ⟨rv, mk_end (raises_own T.exC T.tyC) I1 big stay un2 hok2 os2 bare2 ea ed hd1 q2⟩
    | next => exact False.elim back
    | brk => exact False.elim back
    | cont => exact False.elim back
theorem read_gexc0 {K : PySem.W.Frag} {C : Addr} {code : Str} (T : OexG K bB nid C) (nc : PySem.W.findIn K (.ref C) ("code" : Str) = some none) {vs : List V} {H : Hp} {Q : VK} {E : L2.XK} (h : spExc C code [] vs H Q E) {nx : Ends} (hq : nx.nx = fun _ H' => Q .non H') {σ : L2.St} (hσ : σ = [vs[0]?]) :
    tGst K bB nid "code" (tVar 0) (tC (.str code)) nx σ H := by
  obtain ⟨a, ws, rfl, hl, ha, q⟩ := h
  cases ws with
  | cons _ _ => cases hl
  | nil =>
    subst hσ
    refine ⟨.ref a, rfl, a, C, rfl, T, nc, .inl ⟨ha, fun dx h1 h2 => ?_⟩⟩
    rw [hq]
    exact q dx h1 h2
theorem read_gexc1 {K : PySem.W.Frag} {C : Addr} {code n1 : Str} (T : OexG K bB nid C) (nc : PySem.W.findIn K (.ref C) ("code" : Str) = some none) (m1 : PySem.W.findIn K (.ref C) n1 = some none) {vs : List V} {H : Hp} {Q : VK} {E : L2.XK} (h : spExc C code [n1] vs H Q E) {nx : Ends} (hq : nx.nx = fun _ H' => Q .non H') {σ : L2.St} (hσ : σ = [vs[0]?, vs[1]?]) :
    tSeq (tGst K bB nid "code" (tVar 0) (tC (.str code))) (tGst K bB nid n1 (tVar 0) (tVar 1)) nx σ H := by
  obtain ⟨a, ws, rfl, hl, ha, q⟩ := h
  match ws, hl with
  | [y], _ =>
    subst hσ
    refine ⟨.ref a, rfl, a, C, rfl, T, nc, .inl ⟨ha, fun dx h1 h2 => ?_⟩⟩
    refine ⟨y, rfl, .ref a, rfl, a, C, rfl, T, m1, .inr ⟨dx, _, upd_same, by rw [upd_ne h2, upd_same], Nat.le_of_ble_eq_true rfl, ?_⟩⟩
    rw [hq, upd_mid h2]
    exact q dx h1 h2
theorem sx_raiseG {b : Bg} {F0 H0 : Hp} {R : Xd → Prop} {e : Expr} {es : List Expr} {pos pos' p : Pos} {Tas : DAt} {x : Str} {C fI : Addr} {k : Nat} {fd : FuncData} {ps : List Str} {code : Str} {ns : List Str} (FB : ExcBaseFacts B nid iid bB) (hc : X.calm = true) (M : XM X b F0 H0 R) (T : OexG X.K bB nid C) (iC : PySem.W.findIn X.K (.ref C) "__init__" = some (some (.ref fI))) (tI : PySem.W.typeIn X.K (.ref fI) = some (.type "function"))
    (F1 : FnOk X.prog X.w X.K X.mg X.base CX0 k fI fd ps (spExc C code ns)) (hr : Room (k + 1) X.A) (hb : Binds X.K fd ps []) (hg : Gl X x) (hm : X.mg x = some (.ref C)) (hns : ns.length ≤ 8) (ha : XA X b (e :: es) Tas)
    (hdb : (x == ("__debug__" : Str)) = false := by decide) (he : starEach (e :: es) X.env = (false, eval e X.env) :: starEach es X.env := by rfl) (hpl : (backTo pos (starEach es X.env)).any (·.1) = false := by rfl) :
    XSx X b F0 H0 (.Raise (some (.Call (.Name x p) (e :: es) [] pos)) none pos') (sRaise C code ns R Tas) := by
  obtain ⟨_, h1, h2⟩ := ha
  obtain ⟨E, tk, hE⟩ := M.ex
  refine ⟨_, ps_raise hc tk (pmk_gex FB T iC tI F1 hr hb hg hm h1 hdb he hpl), fun {Fm F H σ γ} E' n t D k => h2 _ n t _ fun vs ds F1 H1 x1 r1 t1 => ?_⟩
  have hl := lenEq_len t1.1
  have hv := r1.length
  refine ⟨by omega, fun a ha => ?_⟩
  rw [List.append_nil]
  refine ⟨a, vs, rfl, by omega, upd_same, fun dx hdx hne => ⟨rfl, dx, excF code ns V.str vs, upd_same, by rw [upd_ne hne, upd_same], ?_, ?_⟩⟩
  · rw [← hdx, upd_ne hne]
  · have hd1 : H1 dx = none := by rw [← hdx, upd_ne hne]
    show E (.ref C) (some dx) _
    rw [exc_gone ha hne]
    have ed := Ext.laid (o := .xd (excF code ns V.str vs)) x1.ok hd1
    exact hE ((n.to x1).ext.trans ed) ⟨rfl, dx, _, rfl, upd_same, (n.to x1).ext.back n.ok0 hd1, x1.ok.fF hd1, repF_exc r1⟩ t1.2
abbrev lookTail : List Value := [.type "LookupError", .type "Exception", .type "BaseException", .type "object"]
abbrev indexTail : List Value := [.type "IndexError", .type "LookupError", .type "Exception", .type "BaseException", .type "object"]
end
/-! x not in a tuple, of data of any depth -/
section
variable {X : Cx} {b : Bg} {e1 e2 : Expr} {pos : Pos}
def rNotInT (K : PySem.W.Frag) : R2 := fun x y H Q => ∃ (d : PyData) (ds : List PyData), Dp K H x d ∧ Dp K H y (.tuple ds) ∧ SeqAt.shaped d = true ∧ SeqAt.shaped (.tuple ds) = true ∧ Q (.bl (!ds.any fun z => PyData.eqv z d)) H
theorem op_notInT (hu : X.A.units + 65 < cLine) : OpR X (compareOp .NotIn) (rNotInT X.K) := by
  rintro pins s σ H x y v u Q I rx ry ⟨d, ds, hd, he, sd, se, q⟩
  have r1 := Dp.reads I d x v hd rx
  have r2 := Dp.reads I (.tuple ds) y u he ry
  exact SeqAt.notIn_tuple_reads r2.choose_spec r1.choose_spec (SeqAt.canLay_of_shaped se) (SeqAt.canLay_of_shaped sd) (room_in_shaped sd hu) ⟨.bl _, H, I, rfl, q⟩
@[reducible] def vNotInT (x y : Dt) (P : Dt → Prop) : Prop := match y with
  | .tup xs => eqOk x = true ∧ eqOk (.tup xs) = true ∧ P (.bl (nB (anyD x xs)))
  | _ => False
theorem d2_notInT {K} : D2 b (rNotInT K) vNotInT := fun {F H x y d e} P k r1 r2 t Q q => by
  cases e <;> first | exact t.elim | skip
  rename_i xs
  obtain ⟨t1, t2, t3⟩ := t
  unfold eqOk at t1 t2
  rw [Bool.and_eq_true] at t1 t2
  refine ⟨py d, pyL xs, rep_dp k.1 r1 t1.1, rep_dp k.1 r2 t2.1, t1.2, t2.2, q _ _ F H (Ext.refl k) ?_ t3⟩
  have e : ((pyL xs).any fun z => PyData.eqv z (py d)) = anyD d xs := by
    unfold anyD
    rw [pyL_map, List.any_map] <;> rfl
  rw [e, nB_eq]
  exact .bl _
theorem x_notInT (hu : X.A.units + 65 < cLine) (ha : XE X b e1 Ta) (hb : XE X b e2 Tb) (hm : behindInMarks .NotIn e2 = false := by rfl) : XE X b (.Compare e1 [.NotIn] [e2] pos) (d2 vNotInT Ta Tb) := by
  obtain ⟨_, h1, h2⟩ := ha; obtain ⟨_, g1, g2⟩ := hb
  exact ⟨_, pe_cmpR (op_notInT hu) h1 g1 hm, de_op d2_notInT h2 g2⟩
theorem t_notInT (hu : X.A.units + 65 < cLine) (ha : XE X b e1 Ta) (hb : XE X b e2 Tb) (hm : behindInMarks .NotIn e2 = false := by rfl) : XT X b (.Compare e1 [.NotIn] [e2] pos) (tB1 (d2 vNotInT Ta Tb)) := t_op (op_notInT hu) d2_notInT hm ha hb
end
end DL

namespace Pf
open PySem PySem.Spec PyProof.Rows L2 DL
theorem any_mem (ms : List Str) : ∀ {x : Dt}, known x = true → anyD x (ms.map Dt.str) = memD ms x := fun {x} h => by
  have no : ∀ {q : Str → Bool}, (∀ z, q z = false) → (ms.any q) = false := fun hq => by
    rw [List.any_eq_false]
    intro z _ e
    rw [hq z] at e
    cases e
  unfold anyD
  rw [List.any_map]
  cases x with
  | str s =>
    show (ms.any fun z => PyData.eqv (.str z) (.str s)) = decide (s ∈ ms)
    by_cases hs : s ∈ ms
    · rw [decide_eq_true hs, List.any_eq_true]
      exact ⟨s, hs, by simp [PyData.eqv]⟩
    · rw [decide_eq_false hs, List.any_eq_false]
      intro z hz e
      simp [PyData.eqv] at e
      exact hs (e ▸ hz)
  | non => exact no fun z => by simp [py, PyData.eqv]
  | bl k => exact no fun z => by simp [py, PyData.eqv]
  | int k => exact no fun z => by simp [py, PyData.eqv]
  | lst k => exact no fun z => by simp [py, PyData.eqv]
  | tup k => exact no fun z => by simp [py, PyData.eqv]
  | dT k => exact no fun z => by simp [py, PyData.eqv]
  | dK k => exact no fun z => by simp [py, PyData.eqv]
  | _ => cases h
theorem eq_strsT {ms : List Str} (h : ∀ y, y ∈ ms → plainName y) : eqOk (.tup (ms.map Dt.str)) = true := eqOk_of (n := 2) (by
  rw [cmp_tup, List.all_map]
  exact List.all_eq_true.mpr fun m hm => plain_strOk (h m hm)) (dep_tup.mpr fun x hx => by
  obtain ⟨i, _, rfl⟩ := List.mem_map.mp hx
  rw [dep_str] <;> decide)
theorem cmp_rule {W S : Int} {ms rg sg : List Str} {rs : List Rul} (hG : GoodS W S ms rg sg rs) {r : Rul} (hr : r ∈ rs) : cmpOk (ruleD r) = true := by
  obtain ⟨h1, h2, h3, h4⟩ := hG.good r hr
  rw [cmp_tup]
  refine List.all_eq_true.mpr fun x hx => ?_
  simp only [List.mem_cons, List.not_mem_nil, or_false] at hx
  rcases hx with rfl | rfl | rfl | rfl
  · exact plain_strOk (hG.mp _ h1)
  · exact plain_strOk (hG.sp _ h2)
  · exact plain_strOk (hG.mp _ h3)
  · rw [cmp_tup, List.all_map]
    refine List.all_eq_true.mpr fun c hc => ?_
    obtain ⟨c1, c2⟩ := h4.2 c hc
    show cmpOk (.tup [.str c.1, termsD c.2]) = true
    rw [cmp_tup]
    refine List.all_eq_true.mpr fun x hx => ?_
    simp only [List.mem_cons, List.not_mem_nil, or_false] at hx
    rcases hx with rfl | rfl
    · exact plain_strOk (hG.rp _ c1)
    · rw [cmp_tup, List.all_map]
      refine List.all_eq_true.mpr fun t ht => ?_
      show cmpOk (.tup [.str t.1, .int t.2]) = true
      rw [cmp_tup]
      refine List.all_eq_true.mpr fun x hx => ?_
      simp only [List.mem_cons, List.not_mem_nil, or_false] at hx
      rcases hx with rfl | rfl
      · rcases (c2.2 t ht).1 with q | q | q
        · exact plain_strOk (hG.rp _ q)
        · rw [q]; decide +kernel
        · rw [q]; decide +kernel
      · rfl
theorem eq_rules {W S : Int} {ms rg sg : List Str} {rs fs : List Rul} (hG : GoodS W S ms rg sg rs) (h : ∀ r, r ∈ fs → r ∈ rs) : eqOk (.lst (fs.map ruleD)) = true := eqOk_of (n := 7) (by
  rw [cmp_lst, List.all_map]
  exact List.all_eq_true.mpr fun r hr => cmp_rule hG (h r hr)) (dep_rules fs)
theorem eqv_rules (fs : List Rul) : PyData.eqv (py (.lst (fs.map ruleD))) (py (.lst [])) = decide (fs = []) := by
  cases fs with
  | nil => simp [py, pyL, PyData.eqv, PyData.eqvAll]
  | cons r fs => simp [py, pyL, PyData.eqv, PyData.eqvAll]
def dueR (rs : List Rul) (m s : Str) : Dt := ((ruleAt rs m s).map ruleD).getD .non
theorem due_rule {W S : Int} {ms rg sg : List Str} {rs : List Rul} (hG : GoodS W S ms rg sg rs) (m s : Str) : okS (dueR rs m s) = true ∧ dep (dueR rs m s) ≤ 6 := by
  unfold dueR
  cases h : ruleAt rs m s with
  | none => exact ⟨rfl, by show dep .non ≤ 6; decide +kernel⟩
  | some r =>
    have := hG.r1
    exact ⟨okS_rule (hG.good r (List.mem_of_find?_eq_some h)).2.2.2 (by omega), dep_rule r⟩
theorem rule_head (rs : List Rul) (m s : Str) : ruleAt rs m s = (rs.filter fun r => decide (r.1 = m) && decide (r.2.1 = s)).head? := (List.head?_filter ..).symm
structure OddN (ms : List Str) (x : Dt) : Prop where
  e : eqOk x = true
  k : known x = true
  n : noEx x = true
  m : memD ms x = false
  o : okS x = true
  d : dep x ≤ 2
theorem not_plain {ms : List Str} {z : Str} (hz : ¬ plainName z) (h : ∀ y, y ∈ ms → plainName y) : memD ms (.str z) = false := decF fun q => hz (h z q)
theorem odd_mode {ms : List Str} {x : Dt} (h : ∀ y, y ∈ ms → plainName y) (hx : x ∈ [.non, .int 3, .str "zoo", .str "", .tup [.str "a"], .bl true]) : OddN ms x := by
  simp only [List.mem_cons, List.not_mem_nil, or_false] at hx
  rcases hx with rfl | rfl | rfl | rfl | rfl | rfl
  · exact ⟨by decide +kernel, rfl, rfl, rfl, rfl, by decide +kernel⟩
  · exact ⟨by decide +kernel, rfl, rfl, rfl, rfl, by decide +kernel⟩
  · exact ⟨by decide +kernel, rfl, rfl, decF (zoo_not h), rfl, by decide +kernel⟩
  · exact ⟨by decide +kernel, rfl, rfl, not_plain (fun q => absurd q.1 (by decide +kernel)) h, rfl, by decide +kernel⟩
  · exact ⟨by decide +kernel, rfl, rfl, rfl, by decide +kernel, by decide +kernel⟩
  · exact ⟨by decide +kernel, rfl, rfl, rfl, rfl, by decide +kernel⟩
theorem odd_sign {sg : List Str} {x : Dt} (h : ∀ y, y ∈ sg → plainName y) (hx : x ∈ [.non, .str "ooo", .int 4]) : OddN sg x := by
  simp only [List.mem_cons, List.not_mem_nil, or_false] at hx
  rcases hx with rfl | rfl | rfl
  · exact ⟨by decide +kernel, rfl, rfl, rfl, rfl, by decide +kernel⟩
  · exact ⟨by decide +kernel, rfl, rfl, decF (ooo_not h), rfl, by decide +kernel⟩
  · exact ⟨by decide +kernel, rfl, rfl, rfl, rfl, by decide +kernel⟩
theorem okT_one {a : Dt} (h : okS a = true) : okS (.tup [a]) = true := okT_of (Nat.le_of_ble_eq_true rfl) fun x hx => by rw [List.mem_singleton.mp hx]; exact h
theorem depT_one {a : Dt} {n : Nat} (h : dep a ≤ n) : dep (.tup [a]) ≤ n + 1 := dep_tup.mpr fun x hx => by rw [List.mem_singleton.mp hx]; exact h
theorem noEx_spec (ms rg sg : List Str) (rs : List Rul) : noEx (specD ms rg sg rs) = true := by
  show (noExL (ms.map Dt.str) && (noExL (rg.map Dt.str) && (noExL (sg.map Dt.str) && (noExL (rs.map ruleD) && true)))) = true
  rw [noEx_strs, noEx_strs, noEx_strs, noExL_map noEx_rule] <;> rfl
end Pf

namespace Pf
open PySem PySem.Spec PyProof.Rows L2 DL
end Pf

/-! enumerate(t) where t is a tuple, or a tuple or a list -/
namespace DL
open PySem PySem.Spec PySem.Calls PyProof.Rows L2
@[reducible] def enO (it : Addr) : Obj := { cls := .type "enumerate", data := .fields #[.none, .bool false, .ref it, rawInt 0, .none, .none] }
set_option maxHeartbeats 1000000 in
theorem en_new {v : Value} {ob : Obj} {Hh : Heap → Prop} (B : Begins v ob Hh) : Meets (Builtin.«enumerate.__new__» ⟨[.type "enumerate", v], []⟩) fun _ R s => Hh s.heap ∧ R (.ok (.ret (.ref (s.heap.push ob).objs.size))) { s with heap := (s.heap.push ob).push (enO s.heap.objs.size) } :=
  .of_wp fun prog w A R s h => by
    obtain ⟨hp, gg, dd, tt, oo⟩ := s
    obtain ⟨hh, hR⟩ := h
    have hsub := sub_enumerate
    have go : ∀ {A' : Around} {E Q : Value → Shared → Prop}, Q (.ref hp.objs.size) ⟨hp.push ob, gg, dd, tt, oo⟩ → wpAny (model prog w) A' (pyIter v) Q E ⟨hp, gg, dd, tt, oo⟩ := fun q => B.iter prog w _ _ ⟨hp, gg, dd, tt, oo⟩ _ hh q
    wp_walk using go
    refine wpAny_stack_any fun st => wpAny_pure ?_
    split
    · rename_i c _ _ _ _ _
      cases (c == Value.type "enumerate")
      · wp_walk using go
        exact ⟨_, rfl, hR⟩
      · wp_walk using go
        exact ⟨_, rfl, hR⟩
    · wp_walk using go
      exact ⟨_, rfl, hR⟩
section
variable {prog : Program} {w : World} {A : Around} {E : Value → Shared → Prop} {s : Shared}
theorem en_call {v : Value} {ob : Obj} {Hh : Heap → Prop} {Q : Value → Shared → Prop} (B : Begins v ob Hh) (hh : Hh s.heap)
    (q : ∀ h', IsEnum h' (s.heap.objs.size + 1) s.heap.objs.size 0 .none → h'.get? s.heap.objs.size = some ob → (∀ c o, s.heap.get? c = some o → h'.get? c = some o) → Q (.ref (s.heap.objs.size + 1)) { s with heap := h' }) :
    wpAny (model prog w) A (call (.type "enumerate") [v]) Q E s := by
  have hz : (s.heap.push ob).objs.size = s.heap.objs.size + 1 := Heap.size_push ..
  have he : IsEnum ((s.heap.push ob).push (enO s.heap.objs.size)) (s.heap.objs.size + 1) s.heap.objs.size 0 .none := by
    have z := Heap.get?_push_size (s.heap.push ob) (o := enO s.heap.objs.size) rfl
    rw [hz] at z; exact z
  refine callType_new F.called_enumerate (by decide) (F.typeCall_enumerate_1 _) (F.newCall_enumerate_1 _) (fun obj => F.args_object_init_2 obj _) F.entry_enumerate_new (en_new B) ⟨hh, ?_⟩
  show _ ∧ _
  rw [hz]
  exact ⟨⟨_, he, rfl⟩, q _ he (Heap.get?_push_of_some _ (Heap.get?_push_size _ B.free)) fun c o x => Heap.get?_push_of_some _ (Heap.get?_push_of_some _ x)⟩
end
/-- the tuple at a, each item in a new pair -/
def IteT (K : PySem.W.Frag) (a : Addr) (xs : List V) : It where
  go := fun i H => ∃ x : V, SqT K H a xs ∧ xs[i]? = some x
  yld := fun i H v H' => ∃ T x, v = .ref T ∧ H T = none ∧ H' = upd H T (.tup [.int (i : Nat), x]) ∧ xs[i]? = some x
  stop := fun i H => SqT K H a xs ∧ xs.length ≤ i
theorem turn_enT {P : Program} {w : World} {K : PySem.W.Frag} {elts : List Expr} {kk : Nat} {tpos : Pos} (a : Addr) (xs : List V) (e it : Addr) :
    Turn P w K (.Tuple elts kk tpos) (IteT K a xs) [e, it] e (fun i h => (∃ old, IsEnum h e it ((i : Nat) : Int) old) ∧ h.IsTupleIter it a i ∧ e ≠ it ∧ a ≠ it ∧ e ≠ a ∧ i ≤ xs.length) where
  mem := List.mem_cons_self
  obj := fun i h st c hc => by
    obtain ⟨⟨old, he⟩, ⟨o, ho, _, hd⟩, _⟩ := st
    rcases (show c = e ∨ c = it by simpa using hc) with z | z
    · rw [z]; exact ⟨_, he, fun v q => by cases q⟩
    · rw [z]; exact ⟨o, ho, fun v q => by rw [hd] at q; cases q⟩
  keep := fun i h h' st k => ⟨let ⟨old, he⟩ := st.1; ⟨old, k e (by simp) _ he⟩, st.2.1.at fun o q => k it (by simp) o q, st.2.2⟩
  item := by
    intro X hP hw hK hc i pins s σ H E I hf st hg
    subst hP hw hK
    obtain ⟨⟨old, he⟩, hit, hne, hai, hea, hle⟩ := st
    obtain ⟨x, hq, hx⟩ := hg
    obtain ⟨its, rv, p, _⟩ := I.tuple hq
    obtain ⟨u, hu, ru⟩ := rv.get hx
    have hel : e < s.heap.objs.size := Heap.lt_size he
    have hil : it < s.heap.objs.size := by obtain ⟨_, q, _⟩ := hit; exact Heap.lt_size q
    have hua : its.toArray[i]? = some u := by simpa using hu
    have hlt : i < its.toArray.size := by
      rcases Nat.lt_or_ge i its.toArray.size with z | z
      · exact z
      · rw [Array.getElem?_eq_none z] at hua; cases hua
    refine wpAny_pyNext_enum_itemD (A := X.A) (Draws.tuple (A := X.A.in1) (I.ok.hd hc) it a hai its.toArray) he ⟨hit, p⟩ hlt hne (by simp [hne, hea]) fun y h' tk hy ho st' hT hsz hk => ?_
    obtain rfl : y = u := Option.some.inj (hy.symm.trans hua)
    refine ⟨_, rfl, wpAny_letOwnedTupleGo_enum (s := { s with heap := h', toks := tk + 1 }) ho fun h2 he2 sb => ?_⟩
    have hT2 := (sb.2 _ (Nat.ne_of_gt hel)).trans hT
    have I1 : Inv X pins σ (upd H s.heap.objs.size (.tup [.int (i : Nat), x])) { s with heap := h2, toks := tk + 1 } :=
      I.turnedNew (ch := [e, it]) (fun c ob hb q => (sb.2 c (fun z => hb (by simp [z]))).trans (hk c ob (fun z => hb (by simp [z])) (fun z => hb (by simp [z])) q)) hf (Nat.le_refl _)
        ⟨show 2 ≤ sizeLine by decide, [.int i tk, y], .cons ⟨_, rfl⟩ (.cons ru .nil), ⟨_, hT2, rfl, _, rfl⟩⟩
    refine ⟨.ref s.heap.objs.size, _, I1, rfl, ⟨_, x, rfl, I.hok.fresh (Nat.le_refl _), rfl, hx⟩, ⟨⟨y, ?_⟩, st'.1.at fun o q => (sb.2 it (Ne.symm hne)).trans q, hne, hai, hea, by have := rv.length; simp at hlt; omega⟩, fun c hcm => ?_⟩
    · rw [show ((i + 1 : Nat) : Int) = (i : Int) + 1 by omega]; exact he2
    · have hlt : c < s.heap.objs.size := by
        rcases (show c = e ∨ c = it by simpa using hcm) with z | z
        · exact z ▸ hel
        · exact z ▸ hil
      rw [upd_ne (Nat.ne_of_lt hlt)]
      exact (hf c hcm).1
  done := by
    intro X hP hw hK hc i pins s σ H E I hf st hg
    subst hP hw hK
    obtain ⟨⟨old, he⟩, hit, hne, hai, hea, hle⟩ := st
    obtain ⟨hq, hx⟩ := hg
    obtain ⟨its, rv, p, _⟩ := I.tuple hq
    obtain ⟨f0, f1, f2, f3, f4, f5⟩ := hf it (by simp)
    have hl := rv.length
    have en : i = its.toArray.size := by simp; omega
    subst en
    exact wpAny_pyNext_enum_endD (A := X.A) (Draws.tuple (A := X.A.in1) (I.ok.hd hc) it a hai its.toArray) he ⟨hit, p⟩ fun h' eb => ⟨rfl, I.turned (t' := s.toks) (fun b o hb q => eb b o hb q) f0 f1 f3 f4 f5⟩
  self := fun A i s Q E st h => let ⟨⟨_, he⟩, _⟩ := st; wpAny_pyIter_enum he h
def iEnumT (K : PySem.W.Frag) (ta : TA) : TI := fun σ H R => ta σ H fun vs H1 => ∃ a xs, vs = [.ref a] ∧ SqT K H1 a xs ∧ R (IteT K a xs) H1
theorem pi_enumT {X : Cx} {e : Expr} {ta : TA} {p pos tpos : Pos} {elts : List Expr} {kk : Nat} (hg : Gl X "enumerate") (hm : X.mg "enumerate" = none) (ha : PA X [e] ta) (hs : starEach [e] X.env = [(false, eval e X.env)] := by rfl) : PI X (.Tuple elts kk tpos) (.Call (.Name "enumerate" p) [e] [] pos) (iEnumT X.K ta) := by
  refine ⟨fun pins s σ H R I h => Call_ (ld_blt I hg hm boot_enumerate (PyProof.Rows.callWith_type1 (thn (ha.run pos pins s σ H _ I h) fun us s1 ⟨vs, H1, I1, r1, a, xs, ex, hq, q⟩ => ?_) hs rfl))⟩
  subst ex
  cases r1 with
  | cons r rr =>
    cases rr
    cases r
    obtain ⟨its, rv, p1, _⟩ := I1.tuple hq
    have hla : a < s1.heap.objs.size := by obtain ⟨_, z, _⟩ := id p1; exact Heap.lt_size z
    refine en_call (begins_tuple a its.toArray) (show s1.heap.IsTuple a its.toArray from p1) fun h' he hit hk => wpAny_pyIter_enum he ?_
    have I2 : Inv X pins σ H1 { s1 with heap := h' } := I1.kept (t' := s1.toks) hk
    refine ⟨s1.heap.objs.size + 1, [s1.heap.objs.size + 1, s1.heap.objs.size], _, _, H1, rfl, I2, turn_enT a xs (s1.heap.objs.size + 1) s1.heap.objs.size, ⟨⟨.none, he⟩, ⟨_, hit, rfl, rfl⟩, Nat.succ_ne_self _, Nat.ne_of_lt hla, Nat.ne_of_gt (Nat.lt_succ_of_lt hla), Nat.zero_le _⟩, fun c hc => ?_, q⟩
    have hle : s1.heap.objs.size ≤ c := by
      rcases (show c = s1.heap.objs.size + 1 ∨ c = s1.heap.objs.size by simpa using hc) with z | z
      · rw [z]; exact Nat.le_succ _
      · exact Nat.le_of_eq z.symm
    exact I1.fpOk hle (I1.hok.fresh hle)
section
variable {X : Cx} {b : Bg} {e : Expr} {pos : Pos} {K : PySem.W.Frag} {Fx : Hp}
theorem walk_enT {a : Addr} {xs : List V} : Walk (IteT K a xs) xs.length (fun H => SqT K H a xs) (YPair (fun i => some (.int (i : Nat))) (fun i => xs[i]?)) := by
  refine ⟨fun i _ hi q => ⟨xs[i], q, by simp [hi]⟩, fun _ q => ⟨q, Nat.le_refl _⟩, fun i H v H' _ q y => ?_⟩
  obtain ⟨T, x, h1, h2, h3, h4⟩ := y
  exact ⟨T, .int (i : Nat), x, h1, h2, h3, rfl, h4⟩
theorem walkd_enT {a : Addr} {vs : List V} {xs : List Dt} (h : Fx a = some (.tup vs)) (r : RepL b Fx vs xs) : WalkD b (IteT K a vs) Fx (enumD xs) := by
  have hl : (enumD xs).length = vs.length := by unfold enumD; rw [List.length_mapIdx, r.length]
  refine ⟨_, by rw [hl]; exact (walk_enT (K := K) (a := a) (xs := vs)).mono (fun H s => SqT.of (s _ _ h)) (fun i H x H' _ _ y => y), fun i H x H' hi y => ?_⟩
  obtain ⟨T, u, z, h1, h2, h3, h4, h5⟩ := y
  obtain ⟨d, g1, g2⟩ := r.get h5
  cases h4
  refine ⟨.tup [.int (i : Nat), d], ?_, .inr ⟨T, [.int (i : Nat), z], [.int (i : Nat), d], h1, h2, h3, .cons (.int _) (.cons g2 .nil), rfl⟩⟩
  unfold enumD
  rw [List.getElem?_mapIdx, g1] <;> rfl
@[reducible] def iET (Ta : DAt) : DAt := fun γ P => Ta γ fun ds => match ds with | [.tup xs] => P (enumD xs) | _ => False
theorem i_enT {elts : List Expr} {kk : Nat} {tpos p : Pos} (hg : Gl X "enumerate") (hm : X.mg "enumerate" = none) (ha : XA X b [e] Ta) (hs : starEach [e] X.env = [(false, eval e X.env)] := by rfl) : XI X b (.Tuple elts kk tpos) (.Call (.Name "enumerate" p) [e] [] pos) (iET Ta) := by
  obtain ⟨_, h1, h2⟩ := ha
  refine ⟨_, pi_enumT hg hm h1 hs, fun P n t R q => h2 _ n t _ fun vs ds F1 H1 x1 r1 t1 => ?_⟩
  cases r1 with
  | nil => exact t1.elim
  | cons ra rb =>
    cases rb with
    | cons _ _ => cases ra <;> exact t1.elim
    | nil =>
      cases ra <;> first | exact t1.elim | skip
      rename_i h r
      exact ⟨_, _, rfl, SqT.of (x1.sub _ _ h), q _ _ F1 H1 x1 (walkd_enT h r) t1⟩
/-- enumerate of what a slot holds, a list or a tuple -/
@[reducible] def iESV (i : Nat) : DAt := fun γ P => match gat γ i with
  | .val (.lst xs) => P (enumD xs)
  | .val (.tup xs) => P (enumD xs)
  | _ => False
theorem i_enSV (i : Nat) {x : Str} {p1 : Pos} {elts : List Expr} {kk : Nat} {tpos p : Pos} (hg : Gl X "enumerate") (hm : X.mg "enumerate" = none) (hN : X.N[i]? = some x := by rfl) (hv : Vis X.env.scope x := by first | exact Or.inl rfl | exact Or.inr (Or.inl rfl) | exact Or.inr (Or.inr rfl)) (hd : (x == ("__debug__" : Str)) = false := by decide)
    (hcd : (x == ("__classdict__" : Str)) = false := by decide) (hs : starEach [.Name x p1] X.env = [(false, eval (.Name x p1) X.env)] := by rfl) : XI X b (.Tuple elts kk tpos) (.Call (.Name "enumerate" p) [.Name x p1] [] pos) (iESV i) := by
  obtain ⟨_, q1, d1⟩ := i_enum (X := X) (b := b) (elts := elts) (kk := kk) (tpos := tpos) (pos := pos) (p := p) hg hm (a_cons (xv i (pos := p1) hN hv hd hcd) a_nil) hs
  obtain ⟨_, q2, d2⟩ := i_enT (X := X) (b := b) (elts := elts) (kk := kk) (tpos := tpos) (pos := pos) (p := p) hg hm (a_cons (xv i (pos := p1) hN hv hd hcd) a_nil) hs
  refine ⟨_, ⟨fun pins s σ H R I h => Or.elim h (fun h => q1.run pins s σ H R I h) (fun h => q2.run pins s σ H R I h)⟩, fun {Fm F0 H0 F H σ γ} P n t R q => ?_⟩
  unfold iESV at t
  cases e : gat γ i with
  | val d =>
    rw [e] at t
    cases d with
    | lst xs =>
      refine .inl (d1 P n ?_ R q)
      show (match gat γ i with | .val d => _ | _ => False)
      rw [e]
      exact t
    | tup xs =>
      refine .inr (d2 P n ?_ R q)
      show (match gat γ i with | .val d => _ | _ => False)
      rw [e]
      exact t
    | _ => exact t.elim
  | _ => rw [e] at t; exact t.elim
end
end DL

/-! a def with a star parameter that may raise; a classmethod called off its class; the class in a name called -/
namespace DL
open PySem PySem.Spec PySem.Calls PyProof.Rows L2
/-- m arguments ahead, what is left over a tuple -/
def spSX (b : Bg) (m : Nat) (T : DSpX) : Sp := fun vs H Q E => ∃ (ws rest : List V) (F : Hp) (ds rs : List Dt) (P : Dt → Prop) (R : Xd → Prop), vs = ws ++ rest ∧ Ok b F H ∧ RepL b F ws ds ∧ RepL b F rest rs ∧ ds.length = m ∧ rs.length ≤ 1000 ∧ T (ds ++ [.tup rs]) P R ∧
  (∀ v d F' H', Ext b F H F' H' → Rep b F' v d → P d → Q v H') ∧ ∀ cls d x F' H', Ext b F H F' H' → RepX b F' H H' cls d x → R x → E cls d H'
/-- .. that raises nothing -/
def spS (b : Bg) (m : Nat) (T : DSp) : Sp := fun vs H Q _ => ∃ (ws rest : List V) (F : Hp) (ds rs : List Dt) (P : Dt → Prop), vs = ws ++ rest ∧ Ok b F H ∧ RepL b F ws ds ∧ RepL b F rest rs ∧ ds.length = m ∧ rs.length ≤ 1000 ∧ T (ds ++ [.tup rs]) P ∧
  (∀ v d F' H', Ext b F H F' H' → Rep b F' v d → P d → Q v H')
section
variable {P : Program} {w : World} {K : PySem.W.Frag} {mg : Str → Option Value} {base : Heap} {b : Bg}
theorem fn_SX {x qual pv : Str} {st : Stmt} {f : Addr} {fd : FuncData} {N ps : List Str} {k : Nat} {T : DSpX} (F : FunV K x qual st f fd) (S : FnScope N (ps ++ [pv]) (defScope st))
    (hb : ∀ us rest : List Value, us.length = ps.length → bindArgs fd ⟨us ++ rest, []⟩ = (newTuple rest >>= fun t => pure (ps.zip us ++ [(pv, t)])))
    (hbody : ∀ (X : Cx) (outer : List Env) (cdv : Value) (A : Around) (s : Shared) (H : Hp) (E : L2.XK), X = cxOf (L2.CX P w) P w K mg base N qual (defScope st) f cdv A outer s H E → Room k X.A → ∀ (F0 H0 : Hp) (R : Xd → Prop), XM (cxOf (L2.CX P w) P w K mg base N qual (defScope st) f cdv A outer s H E) b F0 H0 R →
      ∃ T', XSSx (cxOf (L2.CX P w) P w K mg base N qual (defScope st) f cdv A outer s H E) b F0 H0 (defBody st) T' ∧ ∀ (ds : List Dt) (Q : Dt → Prop), ds.length = ps.length + 1 → T ds Q R → T' { nx := fun _ => Q .non, rt := fun _ => Q } (startD N ds)) :
    FnR P w K mg base (L2.CX P w) (k + 1) f (spSX b ps.length T) := by
  obtain ⟨oc, od, dV, kV, doc, pm, an, cdv, ct, osl, rfl, lk, hcd⟩ := F.ex
  refine FnR.imp (StX.fn_star (sp := spDX b (ps.length + 1) T) lk hcd S StX.cxUp hb fun A outer s H vs Q E hr h => ?_) fun vs H Q E h => ?_
  · obtain ⟨F0, ds, P0, R, h1, h2, h3, h4, h5, h6⟩ := h
    obtain ⟨T', ⟨t, t1, t2⟩, t3⟩ := hbody _ outer cdv A s H E rfl hr F0 H R (xm_of h6)
    refine ⟨t, t1, t2 _ (start_nv (Fm := F0) h1 h2) (t3 ds P0 h3 h4) _ ⟨?_, ?_, ?_, ?_⟩⟩
    · intro F' H' σ γ n r
      exact h5 _ _ _ _ n.ext .non r
    · intro F' H' σ γ v d n r p
      exact h5 _ _ _ _ n.ext r p
    · intro F' H' σ γ n r
      exact r.elim
    · intro F' H' σ γ n r
      exact r.elim
  · obtain ⟨ws, rest, F0, ds, rs, P0, R, rfl, h1, h2, h3, h4, h5, h6, h7, h8⟩ := h
    refine ⟨ws, rest, rfl, by rw [h2.length, h4], Nat.le_trans (by rw [h3.length]; exact h5) (by decide), fun p hp => ?_⟩
    have x := Ext.push (o := .tup rest) h1 hp
    refine ⟨_, ds ++ [.tup rs], P0, R, x.ok, (h2.mono x.grow).append (.cons (.tup upd_same (h3.mono x.grow)) .nil), by rw [List.length_append, h4] <;> rfl, h6, fun v d F' H' y r p1 => h7 v d F' H' (x.trans y) r p1, fun cls d xx F' H' y r hR => ?_⟩
    obtain ⟨e, dx, us, a1, a2, a3, a4, a5⟩ := r
    exact h8 cls d xx F' H' (x.trans y) ⟨e, dx, us, a1, a2, x.back h1 a3, a4, a5⟩ hR
theorem fnR_calm {k m : Nat} {f : Addr} {T : DSpX} {T' : DSp} (F : FnR P w K mg base (L2.CX P w) k f (spSX b m T)) (h : ∀ ds Q, T' ds Q → T ds Q fun _ => False) : FnR P w K mg base CX0 k f (spS b m T') := by
  intro A outer s H us vs Q E hr e0 r hs
  have up : spSX b m T vs H Q (fun _ _ _ => False) := by
    obtain ⟨ws, rest, F0, ds, rs, P0, h0, h1, h2, h3, h4, h5, h6, h7⟩ := hs
    exact ⟨ws, rest, F0, ds, rs, P0, fun _ => False, h0, h1, h2, h3, h4, h5, h _ _ h6, h7, fun _ _ _ _ _ _ _ z => z⟩
  refine codeAny_mono (F A outer s H us vs Q _ hr e0 r up) fun r s' q => ?_
  cases r with
  | error e =>
    obtain ⟨_, _, _, _, _, _, _, _, _, _, _, _, z⟩ := q
    exact z.elim
  | ok fl => cases fl <;> exact q
end
section
variable {X : Cx} {b : Bg} {e : Expr} {es : List Expr} {pos : Pos} {F0 H0 : Hp} {R : Xd → Prop} {Tas : DAt}
@[reducible] def dCMX (C : Addr) (T : DSpX) (R : Xd → Prop) (Ta : DAt) : DT := fun γ P => Ta γ fun ds => ds.length ≤ 1000 ∧ T [.ptr C, .tup ds] P R
theorem x_cmX {k : Nat} {C p g : Addr} {mc : Value} {x mn : Str} {p1 apos : Pos} {T : DSpX} {pl : Sem Bool} (M : XM X b F0 H0 R) (r : ClX.CRead X.K C mc) (c : ClX.CMet X.K C mc mn p g) (F : FnR X.prog X.w X.K X.mg X.base (L2.CX X.prog X.w) k g (spSX b 1 T)) (hr : Room k X.A)
    (hg : Gl X x) (hm : X.mg x = some (.ref C)) (ha : XA X b (e :: es) Tas) (hd : (x == ("__debug__" : Str)) = false := by decide)
    (hst : starEach (e :: es) X.env = (false, eval e X.env) :: starEach es X.env := by rfl) (hpl : (backTo pos (starEach es X.env)).any (·.1) = false := by rfl)
    (ht : eval (.Call (.Attribute (.Name x p1) mn apos) (e :: es) [] pos) X.env = (do
      let ov ← eval (.Name x p1) X.env
      standAt apos.atName
      let (f, first) ← holding [ov] (getMethod ov mn pl)
      callWith pos f first (backTo pos (starEach (e :: es) X.env)) (backToKw pos (keywordEach [] X.env))) := by rfl) :
    XEx X b F0 H0 (.Call (.Attribute (.Name x p1) mn apos) (e :: es) [] pos) (dCMX C T R Tas) := by
  obtain ⟨_, h1, h2⟩ := ha
  obtain ⟨E, tk, hE⟩ := M.ex
  refine ⟨_, ClX.pe_cmeth (E := E) (pl := pl) (pe_glob (v := .ref C) hg hm rfl hd) r c F hr (passes_call tk fun _ _ _ _ z => z) h1 hst hpl ht, fun P n t Q q => ?_⟩
  refine ⟨rfl, h2 _ n t _ fun vs ds F1 H1 x1 r1 t1 => ?_⟩
  exact ⟨[.ref C], vs, F1, [.ptr C], ds, P, R, rfl, x1.ok, .cons (.ptr C) .nil, r1, rfl, t1.1, t1.2, fun v d F' H' x r p1 => q v d F' H' (x1.trans x) r p1, fun cls d xx F' H' y r hR => hE ((n.to x1).ext.trans y) (RepX.up (n.to x1) r) hR⟩
theorem pe_makeV {CX : CXT} {k i : Nat} {f C : Addr} {fd : FuncData} {ps : List Str} {sp : Sp} {dvs : List V} {ds : List Value} {E : L2.XK} {x : Str} {p : Pos} {t : TA} (M : Mk X.K C f) (F : FnOk X.prog X.w X.K X.mg X.base CX k f fd ps sp) (hr : Room (k + 1) X.A) (hN : X.N[i]? = some x) (hv : Vis X.env.scope x) (hb : Binds X.K fd ps ds) (hdv : Vals dvs ds) (hx : Passes CX X E)
    (ha : PA X (e :: es) t) (hd : (x == ("__debug__" : Str)) = false := by decide) (hcd : (x == ("__classdict__" : Str)) = false := by decide) (he : starEach (e :: es) X.env = (false, eval e X.env) :: starEach es X.env := by rfl) (hpl : (backTo pos (starEach es X.env)).any (·.1) = false := by rfl) :
    PE X (.Call (.Name x p) (e :: es) [] pos) (fun σ H Q => σ[i]? = some (some (.ref C)) ∧ tMake C sp dvs E t σ H Q) := by
  refine ⟨fun pins s σ H Q I h => wpAny_Call_Name_kw (thn ((pe_var (pos := p) (i := i) hN hv hd hcd).run pins s σ H (fun v H1 => v = .ref C ∧ H1 = H) I ⟨.ref C, h.1, rfl, rfl⟩) fun u s1 ⟨v, H1, I1, r1, ev, eH⟩ => ?_)⟩
  subst ev
  rw [eH] at I1
  cases r1
  refine PySem.W.callWith_K (h₀ := X.base) I1.ok.mod.kin M.kp (thn (ha.run pos pins s1 σ H _ I1 h.2) fun us s2 ⟨vs, H2, I2, r, q⟩ => ⟨I2.kIn, ?_⟩) he hpl
  exact run_make M F hr hb hdv hx I2 r q
@[reducible] def dMakeXV (i : Nat) (C : Addr) (m : Nat) (T : DIpX) (R : Xd → Prop) (Ta : DAt) : DT := fun γ P => match gat γ i with
  | .val (.ptr C') => C' = C ∧ Ta γ fun ds => ds.length = m ∧ T ds (fun fs => P (.ins C fs)) R
  | _ => False
theorem x_makeXV {k i : Nat} {f C : Addr} {fd : FuncData} {ps : List Str} {x : Str} {p : Pos} {m : Nat} {T : DIpX} (MX : XM X b F0 H0 R) (M : Mk X.K C f) (F : FnOk X.prog X.w X.K X.mg X.base (L2.CX X.prog X.w) k f fd ps (spIX b C m T)) (hr : Room (k + 1) X.A) (hb : Binds X.K fd ps [])
    (ha : XA X b (e :: es) Tas) (hN : X.N[i]? = some x := by rfl) (hv : Vis X.env.scope x := by first | exact Or.inl rfl | exact Or.inr (Or.inl rfl) | exact Or.inr (Or.inr rfl)) (hd : (x == ("__debug__" : Str)) = false := by decide) (hcd : (x == ("__classdict__" : Str)) = false := by decide)
    (he : starEach (e :: es) X.env = (false, eval e X.env) :: starEach es X.env := by rfl) (hpl : (backTo pos (starEach es X.env)).any (·.1) = false := by rfl) : XEx X b F0 H0 (.Call (.Name x p) (e :: es) [] pos) (dMakeXV i C m T R Tas) := by
  obtain ⟨_, h1, h2⟩ := ha
  obtain ⟨E, tk, hE⟩ := MX.ex
  refine ⟨_, pe_makeV (E := E) (i := i) M F hr hN hv hb .nil (passes_call tk fun _ _ _ _ z => z) h1 hd hcd he hpl, fun P n t Q q => ?_⟩
  unfold dMakeXV at t
  cases g : gat _ i with
  | val d =>
    rw [g] at t
    cases d with
    | ptr C' =>
      obtain ⟨rfl, t⟩ := t
      refine ⟨?_, h2 _ n t _ fun vs ds F1 H1 x1 r1 t1 => ?_⟩
      · have hi := n.slot i
        rw [g] at hi
        obtain ⟨v, h3, h4⟩ := hi
        cases h4
        exact h3
      intro a dx ha hdx hne
      show spIX b _ m T (_ :: (vs ++ [])) _ _ _
      rw [List.append_nil]
      refine ⟨a, dx, vs, F1, H1, ds, _, R, rfl, rfl, ha, hdx, hne, x1.ok, r1, t1.1, t1.2, fun F' H' d2 us fs y hx hf r p1 => ⟨rfl, ?_⟩, fun cls d xx F' H' y r hR => hE ((n.to x1).ext.trans y) (RepX.up (n.to x1) r) hR⟩
      have y2 := y.take ha (x1.ok.nb ha) hx
      exact q _ _ _ H' (x1.trans y2) (.ins upd_same (RepF.mono (fun c o z => by rw [upd_ne (ne_of_none z hf)]; exact z) r)) p1
    | _ => exact t.elim
  | _ => rw [g] at t; exact t.elim
theorem pe_cm0 {CX : CXT} {k : Nat} {C p g : Addr} {mc : Value} {sp : Sp} {E : L2.XK} {o : Expr} {m : Str} {apos : Pos} {ta : TE} {pl : Sem Bool} (he : PE X o ta) (r : ClX.CRead X.K C mc) (c : ClX.CMet X.K C mc m p g) (F : FnR X.prog X.w X.K X.mg X.base CX k g sp) (hr : Room k X.A) (hx : Passes CX X E)
    (ht : eval (.Call (.Attribute o m apos) [] [] pos) X.env = (do
      let ov ← eval o X.env
      standAt apos.atName
      let (f, first) ← holding [ov] (getMethod ov m pl)
      callWith pos f first (backTo pos (starEach [] X.env)) (backToKw pos (keywordEach [] X.env))) := by rfl) :
    PE X (.Call (.Attribute o m apos) [] [] pos) (ClX.tCMeth C sp E ta tNil) := by
  refine ⟨fun pins s σ H Q I h => PySem.W.methodCall_KW (pl := pl) (thn (he.run pins s σ H _ I h) fun u s1 ⟨x, H1, I1, rx, ex, q⟩ => ?_) ht⟩
  subst ex
  obtain rfl : u = Value.ref C := rx
  exact ClX.getmethcm_ok I1 r c fun s2 I2 => PySem.W.callWith_M0 ⟨ClX.pin_at I2, I2.kIn⟩ c.fi (ClX.run_cm F hr hx I2 (us := []) .nil q)
theorem x_cmX0 {k : Nat} {C p g : Addr} {mc : Value} {x mn : Str} {p1 apos : Pos} {T : DSpX} {pl : Sem Bool} (M : XM X b F0 H0 R) (r : ClX.CRead X.K C mc) (c : ClX.CMet X.K C mc mn p g) (F : FnR X.prog X.w X.K X.mg X.base (L2.CX X.prog X.w) k g (spSX b 1 T)) (hr : Room k X.A)
    (hg : Gl X x) (hm : X.mg x = some (.ref C)) (hd : (x == ("__debug__" : Str)) = false := by decide)
    (ht : eval (.Call (.Attribute (.Name x p1) mn apos) [] [] pos) X.env = (do
      let ov ← eval (.Name x p1) X.env
      standAt apos.atName
      let (f, first) ← holding [ov] (getMethod ov mn pl)
      callWith pos f first (backTo pos (starEach [] X.env)) (backToKw pos (keywordEach [] X.env))) := by rfl) :
    XEx X b F0 H0 (.Call (.Attribute (.Name x p1) mn apos) [] [] pos) (dCMX C T R aNil) := by
  obtain ⟨E, tk, hE⟩ := M.ex
  refine ⟨_, pe_cm0 (E := E) (pl := pl) (pe_glob (v := .ref C) hg hm rfl hd) r c F hr (passes_call tk fun _ _ _ _ z => z) ht, fun P n t Q q => ⟨rfl, ?_⟩⟩
  exact ⟨[.ref C], [], _, [.ptr C], [], P, R, rfl, n.ok, .cons (.ptr C) .nil, .nil, rfl, t.1, t.2, fun v d F' H' x r p1 => q v d F' H' x r p1, fun cls d xx F' H' y r hR => hE (n.ext.trans y) (RepX.up n r) hR⟩
@[reducible] def dCM (C : Addr) (T : DSp) (Ta : DAt) : DT := fun γ P => Ta γ fun ds => ds.length ≤ 1000 ∧ T [.ptr C, .tup ds] P
theorem x_cm {k : Nat} {C p g : Addr} {mc : Value} {x mn : Str} {p1 apos : Pos} {T : DSp} {pl : Sem Bool} (r : ClX.CRead X.K C mc) (c : ClX.CMet X.K C mc mn p g) (F : FnR X.prog X.w X.K X.mg X.base CX0 k g (spS b 1 T)) (hr : Room k X.A)
    (hg : Gl X x) (hm : X.mg x = some (.ref C)) (ha : XA X b (e :: es) Tas) (hd : (x == ("__debug__" : Str)) = false := by decide)
    (hst : starEach (e :: es) X.env = (false, eval e X.env) :: starEach es X.env := by rfl) (hpl : (backTo pos (starEach es X.env)).any (·.1) = false := by rfl)
    (ht : eval (.Call (.Attribute (.Name x p1) mn apos) (e :: es) [] pos) X.env = (do
      let ov ← eval (.Name x p1) X.env
      standAt apos.atName
      let (f, first) ← holding [ov] (getMethod ov mn pl)
      callWith pos f first (backTo pos (starEach (e :: es) X.env)) (backToKw pos (keywordEach [] X.env))) := by rfl) :
    XE X b (.Call (.Attribute (.Name x p1) mn apos) (e :: es) [] pos) (dCM C T Tas) := by
  obtain ⟨_, h1, h2⟩ := ha
  refine ⟨_, ClX.pe_cmeth (pl := pl) (pe_glob (v := .ref C) hg hm rfl hd) r c F hr pass0 h1 hst hpl ht, fun P n t Q q => ⟨rfl, h2 _ n t _ fun vs ds F1 H1 x1 r1 t1 => ?_⟩⟩
  exact ⟨[.ref C], vs, F1, [.ptr C], ds, P, rfl, x1.ok, .cons (.ptr C) .nil, r1, rfl, t1.1, t1.2, fun v d F' H' x r p1 => q v d F' H' (x1.trans x) r p1⟩
end
end DL

/-! what a default `()` is: a tuple of the base of which only the place is said; a make that takes it -/
namespace DL
open PySem PySem.Spec PySem.Calls PyProof.Rows L2
/-- an empty tuple that the text holds -/
def KT0 (K : PySem.W.Frag) (a : Addr) : Prop := ∃ (o : Obj) (n : Nat), K.lookup a = some o ∧ o.cls = .type "tuple" ∧ o.data = .seq #[] n
theorem KT0.sq {K : PySem.W.Frag} {a : Addr} {H : Hp} (h : KT0 K a) : SqT K H a [] := by
  obtain ⟨o, n, h1, h2, h3⟩ := h
  exact .inr ⟨o, #[], n, h1, h2, h3, Nat.zero_le _, .nil⟩
section
variable {X : Cx} {b : Bg} {e : Expr} {es : List Expr} {pos : Pos} {F0 H0 : Hp} {R : Xd → Prop} {Ta : DT} {Tas : DAt} {tg : Expr}
@[reducible] def bTupK (K : PySem.W.Frag) : DSp := fun ds P => match ds with
  | [.lst xs] => P (.tup xs)
  | [.tup xs] => P (.tup xs)
  | [.ptr a] => KT0 K a ∧ P (.ptr a)
  | _ => False
theorem x_tupK {p : Pos} (hg : Gl X "tuple") (hm : X.mg "tuple" = none) (ha : XA X b [e] Tas) (he : starEach [e] X.env = (false, eval e X.env) :: starEach [] X.env := by rfl) (hpl : (backTo pos (starEach [] X.env)).any (·.1) = false := by rfl) : XE X b (.Call (.Name "tuple" p) [e] [] pos) (dBi (bTupK X.K) Tas) := by
  obtain ⟨_, h1, h2⟩ := ha
  refine ⟨_, pe_callTy call_tuple_of hg hm (by decide +kernel) h1 (he := he) (hpl := hpl), de_cb (fun {F H vs ds} P k r t Q q => ?_) h2⟩
  cases r with
  | nil => exact t.elim
  | cons r1 r2 =>
    cases r2 with
    | cons _ _ => cases r1 <;> exact t.elim
    | nil =>
      cases r1 with
      | lst h r => exact ⟨_, _, rfl, .inl ⟨SqL.of (k.1 _ _ h), fun l hl => q _ _ _ _ (Ext.push k hl) (.tup upd_same (r.mono (Ext.push k hl).grow)) t⟩⟩
      | tup h r => exact ⟨_, _, rfl, .inr ⟨SqT.of (k.1 _ _ h), q _ _ F H (Ext.refl k) (.tup h r) t⟩⟩
      | ptr a => exact ⟨a, [], rfl, .inr ⟨t.1.sq, q _ _ F H (Ext.refl k) (.ptr a) t.2⟩⟩
      | _ => exact t.elim
@[reducible] def bListK (K : PySem.W.Frag) (ds : List Dt) (P : List Dt → Prop) : Prop := match ds with
  | [.lst xs] => P xs
  | [.tup xs] => P xs
  | [.ptr a] => KT0 K a ∧ P []
  | _ => False
theorem l_listK {p : Pos} (hg : Gl X "list") (hm : X.mg "list" = none) (ha : XA X b [e] Tas) (he : starEach [e] X.env = (false, eval e X.env) :: starEach [] X.env := by rfl) (hpl : (backTo pos (starEach [] X.env)).any (·.1) = false := by rfl) : XL X b (.Call (.Name "list" p) [e] [] pos) (fun γ P => Tas γ fun ds => bListK X.K ds P) := by
  obtain ⟨_, h1, h2⟩ := ha
  refine ⟨_, pe_callTy call_list_of hg hm (by decide +kernel) h1 (he := he) (hpl := hpl), fun P n t Q q => h2 _ n t _ fun vs ds F1 H1 x1 r t => ?_⟩
  cases r with
  | nil => exact t.elim
  | cons r1 r2 =>
    cases r2 with
    | cons _ _ => cases r1 <;> exact t.elim
    | nil =>
      cases r1 with
      | lst h r => exact ⟨_, _, rfl, .inl (SqL.of (x1.sub _ _ h)), fun l hl => q l _ _ F1 _ (x1.trans (Ext.laid x1.ok hl)) (x1.back n.ok hl) upd_same (x1.ok.fF hl) r t⟩
      | tup h r => exact ⟨_, _, rfl, .inr (SqT.of (x1.sub _ _ h)), fun l hl => q l _ _ F1 _ (x1.trans (Ext.laid x1.ok hl)) (x1.back n.ok hl) upd_same (x1.ok.fF hl) r t⟩
      | ptr a => exact ⟨a, [], rfl, .inr t.1.sq, fun l hl => q l _ _ F1 _ (x1.trans (Ext.laid x1.ok hl)) (x1.back n.ok hl) upd_same (x1.ok.fF hl) .nil t.2⟩
      | _ => exact t.elim
/-- what a slot holds, walked -/
@[reducible] def iSVK (K : PySem.W.Frag) (i : Nat) : DAt := fun γ P => match gat γ i with
  | .val (.lst xs) => P xs
  | .val (.tup xs) => P xs
  | .val (.ptr a) => KT0 K a ∧ P []
  | _ => False
theorem walkd_k0 {K : PySem.W.Frag} {Fx : Hp} {a : Addr} (h : KT0 K a) : WalkD b (Itt K a) Fx [] :=
  ⟨_, (walk_tup (K := K) (a := a) (xs := [])).mono (fun H s => h.sq) (fun i H x H' _ _ y => y), fun i H x H' hi y => absurd hi (Nat.not_lt_zero _)⟩
theorem i_k0 (ha : XE X b e Ta) : XI X b tg e (fun γ P => Ta γ fun x => match x with | .ptr a => KT0 X.K a ∧ P [] | _ => False) := by
  obtain ⟨_, h1, h2⟩ := ha
  refine ⟨_, pi_tup h1, fun P n t R q => h2 _ n t _ fun v d F1 H1 x1 r1 t1 => ?_⟩
  cases r1 <;> first | exact t1.elim | skip
  exact ⟨_, rfl, ⟨_, t1.1.sq⟩, q _ _ F1 H1 x1 (walkd_k0 t1.1) t1.2⟩
theorem i_seqK (i : Nat) {x : Str} {p1 : Pos} (hN : X.N[i]? = some x := by rfl) (hv : Vis X.env.scope x := by first | exact Or.inl rfl | exact Or.inr (Or.inl rfl) | exact Or.inr (Or.inr rfl)) (hd : (x == ("__debug__" : Str)) = false := by decide)
    (hcd : (x == ("__classdict__" : Str)) = false := by decide) : XI X b tg (.Name x p1) (iSVK X.K i) := by
  obtain ⟨_, q1, d1⟩ := i_seq (X := X) (b := b) (tg := tg) i (pos := p1) hN hv hd hcd
  obtain ⟨_, q2, d2⟩ := i_k0 (X := X) (b := b) (tg := tg) (xv i (pos := p1) hN hv hd hcd)
  refine ⟨_, ⟨fun pins s σ H R I h => Or.elim h (fun h => q1.run pins s σ H R I h) (fun h => q2.run pins s σ H R I h)⟩, fun {Fm F0 H0 F H σ γ} P n t R q => ?_⟩
  unfold iSVK at t
  cases e : gat γ i with
  | val d =>
    rw [e] at t
    cases d with
    | lst xs => exact .inl (d1 P n (show iSV i γ P by unfold iSV; rw [e]; exact t) R q)
    | tup xs => exact .inl (d1 P n (show iSV i γ P by unfold iSV; rw [e]; exact t) R q)
    | ptr a => exact .inr (d2 P n (show dVar i γ _ by unfold dVar; rw [e]; exact t) R q)
    | _ => exact t.elim
  | _ => rw [e] at t; exact t.elim
@[reducible] def iESVK (K : PySem.W.Frag) (i : Nat) : DAt := fun γ P => match gat γ i with
  | .val (.lst xs) => P (enumD xs)
  | .val (.tup xs) => P (enumD xs)
  | .val (.ptr a) => KT0 K a ∧ P []
  | _ => False
theorem i_enK0 {elts : List Expr} {kk : Nat} {tpos p : Pos} (hg : Gl X "enumerate") (hm : X.mg "enumerate" = none) (ha : XA X b [e] Tas) (hs : starEach [e] X.env = [(false, eval e X.env)] := by rfl) : XI X b (.Tuple elts kk tpos) (.Call (.Name "enumerate" p) [e] [] pos) (fun γ P => Tas γ fun ds => match ds with | [.ptr a] => KT0 X.K a ∧ P [] | _ => False) := by
  obtain ⟨_, h1, h2⟩ := ha
  refine ⟨_, pi_enumT hg hm h1 hs, fun P n t R q => h2 _ n t _ fun vs ds F1 H1 x1 r1 t1 => ?_⟩
  cases r1 with
  | nil => exact t1.elim
  | cons ra rb =>
    cases rb with
    | cons _ _ => cases ra <;> exact t1.elim
    | nil =>
      cases ra <;> first | exact t1.elim | skip
      exact ⟨_, [], rfl, t1.1.sq, q _ _ F1 H1 x1 ⟨_, (walk_enT (K := X.K) (xs := [])).mono (fun H s => t1.1.sq) (fun i H x H' _ _ y => y), fun i H x H' hi y => absurd hi (Nat.not_lt_zero _)⟩ t1.2⟩
theorem i_enSVK (i : Nat) {x : Str} {p1 : Pos} {elts : List Expr} {kk : Nat} {tpos p : Pos} (hg : Gl X "enumerate") (hm : X.mg "enumerate" = none) (hN : X.N[i]? = some x := by rfl) (hv : Vis X.env.scope x := by first | exact Or.inl rfl | exact Or.inr (Or.inl rfl) | exact Or.inr (Or.inr rfl)) (hd : (x == ("__debug__" : Str)) = false := by decide)
    (hcd : (x == ("__classdict__" : Str)) = false := by decide) (hs : starEach [.Name x p1] X.env = [(false, eval (.Name x p1) X.env)] := by rfl) : XI X b (.Tuple elts kk tpos) (.Call (.Name "enumerate" p) [.Name x p1] [] pos) (iESVK X.K i) := by
  obtain ⟨_, q1, d1⟩ := i_enSV (X := X) (b := b) (elts := elts) (kk := kk) (tpos := tpos) (pos := pos) (p := p) i (p1 := p1) hg hm hN hv hd hcd hs
  obtain ⟨_, q2, d2⟩ := i_enK0 (X := X) (b := b) (elts := elts) (kk := kk) (tpos := tpos) (pos := pos) (p := p) hg hm (a_cons (xv i (pos := p1) hN hv hd hcd) a_nil) hs
  refine ⟨_, ⟨fun pins s σ H R I h => Or.elim h (fun h => q1.run pins s σ H R I h) (fun h => q2.run pins s σ H R I h)⟩, fun {Fm F0 H0 F H σ γ} P n t R q => ?_⟩
  unfold iESVK at t
  cases e : gat γ i with
  | val d =>
    rw [e] at t
    cases d with
    | lst xs => exact .inl (d1 P n (show iESV i γ P by unfold iESV; rw [e]; exact t) R q)
    | tup xs => exact .inl (d1 P n (show iESV i γ P by unfold iESV; rw [e]; exact t) R q)
    | ptr a =>
      refine .inr (d2 P n ?_ R q)
      show (match gat γ i with | .val d => _ | _ => False)
      rw [e]
      exact t
    | _ => exact t.elim
  | _ => rw [e] at t; exact t.elim
/-- isinstance(e, (list, tuple)), also of such a default -/
@[reducible] def dIsK (K : PySem.W.Frag) (n1 n2 : Tk) (Ta : DT) : DT := fun γ P => Ta γ fun x => match x with
  | .ptr a => KT0 K a ∧ P (.bl (oB (isB n1 (.tup [])) (isB n2 (.tup []))))
  | x => known x = true ∧ P (.bl (oB (isB n1 x) (isB n2 x)))
theorem x_isK {p q1 q2 q3 : Pos} {c1 c2 : Str} {n1 n2 : Tk} {x1} (hk1 : KitOk n1) (hk2 : KitOk n2) (hg : Gl X "isinstance") (hm : X.mg "isinstance" = none) (hg1 : Gl X c1) (hm1 : X.mg c1 = none) (hv1 : bootBuiltins c1 = some (.type (tkS n1))) (hg2 : Gl X c2) (hm2 : X.mg c2 = none) (hv2 : bootBuiltins c2 = some (.type (tkS n2))) (ha : XE X b e Ta)
    (hn1 : c1 ≠ "__name__" := by decide) (hd1 : (c1 == ("__debug__" : Str)) = false := by decide) (hn2 : c2 ≠ "__name__" := by decide) (hd2 : (c2 == ("__debug__" : Str)) = false := by decide)
    (he : starEach [e, .Tuple [.Name c1 q1, .Name c2 q2] x1 q3] X.env = (false, eval e X.env) :: starEach [.Tuple [.Name c1 q1, .Name c2 q2] x1 q3] X.env := by rfl) (hpl : (backTo pos (starEach [.Tuple [.Name c1 q1, .Name c2 q2] x1 q3] X.env)).any (·.1) = false := by rfl)
    (he2 : starEach [.Tuple [.Name c1 q1, .Name c2 q2] x1 q3] X.env = (false, eval (.Tuple [.Name c1 q1, .Name c2 q2] x1 q3) X.env) :: starEach [] X.env := by rfl) (he3 : starEach [.Name c1 q1, .Name c2 q2] X.env = (false, eval (.Name c1 q1) X.env) :: starEach [.Name c2 q2] X.env := by rfl) (he4 : starEach [.Name c2 q2] X.env = (false, eval (.Name c2 q2) X.env) :: starEach [] X.env := by rfl) :
    XE X b (.Call (.Name "isinstance" p) [e, .Tuple [.Name c1 q1, .Name c2 q2] x1 q3] [] pos) (dIsK X.K n1 n2 Ta) := by
  obtain ⟨_, h1, h2⟩ := ha
  refine ⟨_, pe_callB call_isiT hg hm (by decide +kernel) (pa_cons h1 (pa_cons (pe_tup (pa_cons (pe_bltn (v := .ty (tkS n1)) hg1 hm1 hv1 rfl hn1 hd1) (pa_cons (pe_bltn (v := .ty (tkS n2)) hg2 hm2 hv2 rfl hn2 hd2) pa_nil he4) he3)) pa_nil he2) he) (he := he) (hpl := hpl), fun P n t Q q => h2 _ n t _ fun v d F1 H1 x1 r1 t1 => ?_⟩
  have two : ∀ {d' : Dt} {p : Addr}, tyN d' ≠ "?" → TyX X.K (upd H1 p (.tup [.ty (tkS n1), .ty (tkS n2)])) v (.type (tyN d')) → H1 p = none → P (.bl (oB (isB n1 d') (isB n2 d'))) → rIsiT X.K [v, .ref p] (upd H1 p (.tup [.ty (tkS n1), .ty (tkS n2)])) Q := fun {d' p} hq ht hp t2 => by
    have x2 := Ext.laid (o := .tup [.ty (tkS n1), .ty (tkS n2)]) x1.ok hp
    refine ⟨_, _, _, _, _, _, rfl, upd_same, .cons (.ty _) (.cons (.ty _) .nil), ht, kitAny_cons (kit_ty (hk1 d' hq)) (fun h => kitAny_cons (kit_ty (hk2 d' hq)) (fun h' => ?_) (fun h' => ?_)) (fun h => ?_), q _ _ F1 _ (x1.trans x2) (.bl _) t2⟩
    · rw [h, h']; exact kitAny_nil
    · rw [h, h']
    · rw [h]
  refine ⟨by show 2 ≤ sizeLine; decide, fun p hp => ?_⟩
  have x2 := Ext.laid (o := .tup [.ty (tkS n1), .ty (tkS n2)]) x1.ok hp
  cases d with
  | ptr a =>
    cases r1
    obtain ⟨o, m, k1, k2, k3⟩ := t1.1
    exact two (d' := .tup []) (by decide) (.kTuple k1 k2) hp t1.2
  | _ => exact two (known_ty t1.1) (ty_of x2.sub r1 (known_ty t1.1)) hp t1.2
/-- making an instance by an __init__ whose last parameter is not given -/
@[reducible] def dMakeXD (C : Addr) (m : Nat) (T : DIpX) (R : Xd → Prop) (dE : Addr) (Ta : DAt) : DT := fun γ P => Ta γ fun ds => ds.length + 1 = m ∧ T (ds ++ [.ptr dE]) (fun fs => P (.ins C fs)) R
theorem x_makeXD {k : Nat} {f C dE : Addr} {fd : FuncData} {ps : List Str} {x : Str} {p : Pos} {m : Nat} {T : DIpX} (MX : XM X b F0 H0 R) (M : Mk X.K C f) (F : FnOk X.prog X.w X.K X.mg X.base (L2.CX X.prog X.w) k f fd ps (spIX b C m T)) (hr : Room (k + 1) X.A) (hg : Gl X x) (hm : X.mg x = some (.ref C)) (hb : Binds X.K fd ps [.ref dE])
    (ha : XA X b (e :: es) Tas) (hdb : (x == ("__debug__" : Str)) = false := by decide) (he : starEach (e :: es) X.env = (false, eval e X.env) :: starEach es X.env := by rfl) (hpl : (backTo pos (starEach es X.env)).any (·.1) = false := by rfl) : XEx X b F0 H0 (.Call (.Name x p) (e :: es) [] pos) (dMakeXD C m T R dE Tas) := by
  obtain ⟨_, h1, h2⟩ := ha
  obtain ⟨E, tk, hE⟩ := MX.ex
  refine ⟨_, pe_make (E := E) (dvs := [.ref dE]) M F hr hg hm hb (.cons rfl .nil) (passes_call tk fun _ _ _ _ z => z) h1 hdb he hpl, fun P n t Q q => h2 _ n t _ fun vs ds F1 H1 x1 r1 t1 => ?_⟩
  intro a dx ha hdx hne
  refine ⟨a, dx, vs ++ [.ref dE], F1, H1, ds ++ [.ptr dE], _, R, rfl, rfl, ha, hdx, hne, x1.ok, r1.append (.cons (.ptr dE) .nil), by rw [List.length_append]; exact t1.1, t1.2, fun F' H' d2 us fs y hx hf r p1 => ⟨rfl, ?_⟩, fun cls d xx F' H' y r hR => hE ((n.to x1).ext.trans y) (RepX.up (n.to x1) r) hR⟩
  have y2 := y.take ha (x1.ok.nb ha) hx
  exact q _ _ _ H' (x1.trans y2) (.ins upd_same (RepF.mono (fun c o z => by rw [upd_ne (ne_of_none z hf)]; exact z) r)) p1
@[reducible] def dMakeXVD (i : Nat) (C : Addr) (m : Nat) (T : DIpX) (R : Xd → Prop) (dE : Addr) (Ta : DAt) : DT := fun γ P => match gat γ i with
  | .val (.ptr C') => C' = C ∧ Ta γ fun ds => ds.length + 1 = m ∧ T (ds ++ [.ptr dE]) (fun fs => P (.ins C fs)) R
  | _ => False
theorem x_makeXVD {k i : Nat} {f C dE : Addr} {fd : FuncData} {ps : List Str} {x : Str} {p : Pos} {m : Nat} {T : DIpX} (MX : XM X b F0 H0 R) (M : Mk X.K C f) (F : FnOk X.prog X.w X.K X.mg X.base (L2.CX X.prog X.w) k f fd ps (spIX b C m T)) (hr : Room (k + 1) X.A) (hb : Binds X.K fd ps [.ref dE])
    (ha : XA X b (e :: es) Tas) (hN : X.N[i]? = some x := by rfl) (hv : Vis X.env.scope x := by first | exact Or.inl rfl | exact Or.inr (Or.inl rfl) | exact Or.inr (Or.inr rfl)) (hd : (x == ("__debug__" : Str)) = false := by decide) (hcd : (x == ("__classdict__" : Str)) = false := by decide)
    (he : starEach (e :: es) X.env = (false, eval e X.env) :: starEach es X.env := by rfl) (hpl : (backTo pos (starEach es X.env)).any (·.1) = false := by rfl) : XEx X b F0 H0 (.Call (.Name x p) (e :: es) [] pos) (dMakeXVD i C m T R dE Tas) := by
  obtain ⟨_, h1, h2⟩ := ha
  obtain ⟨E, tk, hE⟩ := MX.ex
  refine ⟨_, pe_makeV (E := E) (i := i) (dvs := [.ref dE]) M F hr hN hv hb (.cons rfl .nil) (passes_call tk fun _ _ _ _ z => z) h1 hd hcd he hpl, fun P n t Q q => ?_⟩
  unfold dMakeXVD at t
  cases g : gat _ i with
  | val d =>
    rw [g] at t
    cases d with
    | ptr C' =>
      obtain ⟨rfl, t⟩ := t
      refine ⟨?_, h2 _ n t _ fun vs ds F1 H1 x1 r1 t1 => ?_⟩
      · have hi := n.slot i
        rw [g] at hi
        obtain ⟨v, h3, h4⟩ := hi
        cases h4
        exact h3
      intro a dx ha hdx hne
      refine ⟨a, dx, vs ++ [.ref dE], F1, H1, ds ++ [.ptr dE], _, R, rfl, rfl, ha, hdx, hne, x1.ok, r1.append (.cons (.ptr dE) .nil), by rw [List.length_append]; exact t1.1, t1.2, fun F' H' d2 us fs y hx hf r p1 => ⟨rfl, ?_⟩, fun cls d xx F' H' y r hR => hE ((n.to x1).ext.trans y) (RepX.up (n.to x1) r) hR⟩
      have y2 := y.take ha (x1.ok.nb ha) hx
      exact q _ _ _ H' (x1.trans y2) (.ins upd_same (RepF.mono (fun c o z => by rw [upd_ne (ne_of_none z hf)]; exact z) r)) p1
    | _ => exact t.elim
  | _ => rw [g] at t; exact t.elim
@[reducible] def dMakeD (C : Addr) (m : Nat) (T : DIp) (dE : Addr) (Ta : DAt) : DT := fun γ P => Ta γ fun ds => ds.length + 1 = m ∧ T (ds ++ [.ptr dE]) (fun fs => P (.ins C fs))
theorem x_makeD {k : Nat} {f C dE : Addr} {fd : FuncData} {ps : List Str} {x : Str} {p : Pos} {m : Nat} {T : DIp} (M : Mk X.K C f) (F : FnOk X.prog X.w X.K X.mg X.base CX0 k f fd ps (spI b C m T)) (hr : Room (k + 1) X.A) (hg : Gl X x) (hm : X.mg x = some (.ref C)) (hb : Binds X.K fd ps [.ref dE])
    (ha : XA X b (e :: es) Tas) (hdb : (x == ("__debug__" : Str)) = false := by decide) (he : starEach (e :: es) X.env = (false, eval e X.env) :: starEach es X.env := by rfl) (hpl : (backTo pos (starEach es X.env)).any (·.1) = false := by rfl) : XE X b (.Call (.Name x p) (e :: es) [] pos) (dMakeD C m T dE Tas) := by
  obtain ⟨_, h1, h2⟩ := ha
  refine ⟨_, pe_make (dvs := [.ref dE]) M F hr hg hm hb (.cons rfl .nil) pass0 h1 hdb he hpl, fun P n t Q q => h2 _ n t _ fun vs ds F1 H1 x1 r1 t1 => ?_⟩
  intro a dx ha hdx hne
  refine ⟨a, dx, vs ++ [.ref dE], F1, H1, ds ++ [.ptr dE], _, rfl, rfl, ha, hdx, hne, x1.ok, r1.append (.cons (.ptr dE) .nil), by rw [List.length_append]; exact t1.1, t1.2, fun F' H' d2 us fs y hx hf r p1 => ⟨rfl, ?_⟩⟩
  have y2 := y.take ha (x1.ok.nb ha) hx
  exact q _ _ _ H' (x1.trans y2) (.ins upd_same (RepF.mono (fun c o z => by rw [upd_ne (ne_of_none z hf)]; exact z) r)) p1
end
/-- one argument less than parameters: the only default is taken -/
theorem bindsVD {K : PySem.W.Frag} {x qual : Str} {st : Stmt} {T e : Addr} {oT : Value} {pT an : Option Addr} {nT : Nat} {sT : Array (Option Value)} {kV doc pm cdv ct : Value} {ps : List Str} (l : K.lookup T = some ⟨oT, pT, .seq #[.ref e] nT, sT⟩)
    (h : ∀ us : List Value, us.length + 1 = ps.length → ∃ k, bindArgs (PySem.W.fnOf x qual (defArgs st) (defBody st) (defScope st) (.ref T) kV doc pm an cdv ct) ⟨us, []⟩ = seqItems? (.ref T) >>= k ∧ k (some #[.ref e]) = pure (ps.zip (us ++ [.ref e]))) :
    Binds K (PySem.W.fnOf x qual (defArgs st) (defBody st) (defScope st) (.ref T) kV doc pm an cdv ct) ps [.ref e] := fun s us X hlen => by
  have hl : us.length + 1 = ps.length := by rw [List.length_append] at hlen; exact hlen
  obtain ⟨k, e1, e2⟩ := h us hl
  refine BindsTo.of_looks fun M => ?_
  rw [e1]
  exact looks_items X l rfl (.of_pure e2)
end DL

local macro_rules | `(tactic| walk_at "side") => `(tactic| first | exact Nat.le_of_ble_eq_true rfl | exact Or.inl rfl | omega | decide | decide +kernel | exact Or.inr (by decide) | exact Or.inl (by decide) | (dsimp only; exact Or.inl (by omega)) | (dsimp only; exact Or.inr (by omega)) | (dsimp only; omega) | exact ⟨by omega, by omega⟩ | assumption | trivial | rfl | (intro z hz; cases hz <;> omega))
local macro_rules | `(tactic| walk_at "go1") => `(tactic| with_reducible conv => whnf)
local macro_rules | `(tactic| walk_at "go2") => `(tactic| first | ((with_reducible refine Exists.intro ?ww (And.intro ?hh ?_)); (case hh => rfl)) | ((with_reducible refine And.intro ?hs ?_); (case hs => walk_at "side")) | ((with_reducible refine And.intro ?hs (Exists.intro ?ww (And.intro ?hh ?_))); (case hh => rfl); (case hs => walk_at "side")) | fail "no more")
local macro_rules | `(tactic| walk_at "go3") => `(tactic| first | walk_at "go2" | with_reducible refine DL.dAnd_go ?_ | with_reducible refine DL.dOr_go ?_ | with_reducible refine DL.dChI_go ?_)
local macro_rules | `(tactic| walk_at "go") => `(tactic| (walk_at "go1"; repeat' (walk_at "go3"; walk_at "go1")); try dsimp only)
local macro_rules | `(tactic| walk_at "gs") => `(tactic| (walk_at "go1"; repeat' (walk_at "go2"; walk_at "go1")); try dsimp only)
local macro_rules | `(tactic| walk_at "om") => `(tactic| repeat (with_reducible refine And.intro (by omega) ?_))
namespace Pf
open PySem PySem.Spec PyProof.Rows L2 DL
def mthS (i j : Nat) : Stmt := match PySem.Challenge.pw_twinbegun_k10_idle_programs.main.body.getD i (.Pass ⟨0, 0, 0, 0⟩) with | .ClassDef (body := bd) .. => bd.getD j (.Pass ⟨0, 0, 0, 0⟩) | _ => .Pass ⟨0, 0, 0, 0⟩
def topS (i : Nat) : Stmt := PySem.Challenge.pw_twinbegun_k10_idle_programs.main.body.getD i (.Pass ⟨0, 0, 0, 0⟩)
abbrev s_bag : Stmt := topS 39
abbrev N_bag : List Str := ["_law_script", "_law_cells", "_law_mixed", "_law_cell"]
abbrev P_bag : List Str := ["_law_script"]
theorem sc_bag : FnScope N_bag P_bag (defScope s_bag) := ⟨rfl, rfl, rfl, by decide +kernel, rfl, by decide +kernel, by decide +kernel⟩
abbrev s_take : Stmt := topS 40
abbrev N_take : List Str := ["_law_bag_here", "_law_many", "_law_cell", "_law_digit", "_law_old"]
abbrev P_take : List Str := ["_law_bag_here", "_law_many"]
theorem sc_take : FnScope N_take P_take (defScope s_take) := ⟨rfl, rfl, rfl, by decide +kernel, rfl, by decide +kernel, by decide +kernel⟩
abbrev s_of : Stmt := topS 41
abbrev N_of : List Str := ["_law_bag_here", "_law_things"]
abbrev P_of : List Str := ["_law_bag_here", "_law_things"]
theorem sc_of : FnScope N_of P_of (defScope s_of) := ⟨rfl, rfl, rfl, by decide +kernel, rfl, by decide +kernel, by decide +kernel⟩
abbrev s_names : Stmt := topS 47
abbrev N_names : List Str := ["_law_bag_here", "_law_many", "_law_letters", "_law_stem", "_law_at", "_law_first", "_law_step", "_law_k"]
abbrev P_names : List Str := ["_law_bag_here", "_law_many"]
theorem sc_names : FnScope N_names P_names (defScope s_names) := ⟨rfl, rfl, rfl, by decide +kernel, rfl, by decide +kernel, by decide +kernel⟩
abbrev s_is_list : Stmt := topS 26
abbrev N_is_list : List Str := ["value"]
abbrev P_is_list : List Str := ["value"]
theorem sc_is_list : FnScope N_is_list P_is_list (defScope s_is_list) := ⟨rfl, rfl, rfl, by decide +kernel, rfl, by decide +kernel, by decide +kernel⟩
abbrev s_is_name : Stmt := topS 27
abbrev N_is_name : List Str := ["value", "letter"]
abbrev P_is_name : List Str := ["value"]
theorem sc_is_name : FnScope N_is_name P_is_name (defScope s_is_name) := ⟨rfl, rfl, rfl, by decide +kernel, rfl, by decide +kernel, by decide +kernel⟩
abbrev s_check_names : Stmt := topS 31
abbrev N_check_names : List Str := ["names", "name"]
abbrev P_check_names : List Str := ["names"]
theorem sc_check_names : FnScope N_check_names P_check_names (defScope s_check_names) := ⟨rfl, rfl, rfl, by decide +kernel, rfl, by decide +kernel, by decide +kernel⟩
abbrev s_check_different : Stmt := topS 32
abbrev N_check_different : List Str := ["names", "index", "name"]
abbrev P_check_different : List Str := ["names"]
theorem sc_check_different : FnScope N_check_different P_check_different (defScope s_check_different) := ⟨rfl, rfl, rfl, by decide +kernel, rfl, by decide +kernel, by decide +kernel⟩
abbrev s_check_count : Stmt := topS 33
abbrev N_check_count : List Str := ["names", "least", "most"]
abbrev P_check_count : List Str := ["names", "least", "most"]
theorem sc_check_count : FnScope N_check_count P_check_count (defScope s_check_count) := ⟨rfl, rfl, rfl, by decide +kernel, rfl, by decide +kernel, by decide +kernel⟩
abbrev s_are_pairs : Stmt := topS 28
abbrev N_are_pairs : List Str := ["value", "names", "seen", "item"]
abbrev P_are_pairs : List Str := ["value", "names"]
theorem sc_are_pairs : FnScope N_are_pairs P_are_pairs (defScope s_are_pairs) := ⟨rfl, rfl, rfl, by decide +kernel, rfl, by decide +kernel, by decide +kernel⟩
abbrev s_is_whole : Stmt := topS 24
abbrev N_is_whole : List Str := ["value"]
abbrev P_is_whole : List Str := ["value"]
theorem sc_is_whole : FnScope N_is_whole P_is_whole (defScope s_is_whole) := ⟨rfl, rfl, rfl, by decide +kernel, rfl, by decide +kernel, by decide +kernel⟩
abbrev s_is_integer : Stmt := topS 25
abbrev N_is_integer : List Str := ["value", "least", "most"]
abbrev P_is_integer : List Str := ["value", "least", "most"]
theorem sc_is_integer : FnScope N_is_integer P_is_integer (defScope s_is_integer) := ⟨rfl, rfl, rfl, by decide +kernel, rfl, by decide +kernel, by decide +kernel⟩
abbrev s_are_terms : Stmt := topS 29
abbrev N_are_terms : List Str := ["value", "sources", "term"]
abbrev P_are_terms : List Str := ["value", "sources"]
theorem sc_are_terms : FnScope N_are_terms P_are_terms (defScope s_are_terms) := ⟨rfl, rfl, rfl, by decide +kernel, rfl, by decide +kernel, by decide +kernel⟩
abbrev s_is_rule : Stmt := topS 30
abbrev N_is_rule : List Str := ["value", "modes", "registers", "signs", "mode", "sign", "behind", "changes", "sources", "change"]
abbrev P_is_rule : List Str := ["value", "modes", "registers", "signs"]
theorem sc_is_rule : FnScope N_is_rule P_is_rule (defScope s_is_rule) := ⟨rfl, rfl, rfl, by decide +kernel, rfl, by decide +kernel, by decide +kernel⟩
abbrev s_check_rules : Stmt := topS 34
abbrev N_check_rules : List Str := ["rules", "modes", "registers", "signs", "index", "rule", "seen"]
abbrev P_check_rules : List Str := ["rules", "modes", "registers", "signs"]
theorem sc_check_rules : FnScope N_check_rules P_check_rules (defScope s_check_rules) := ⟨rfl, rfl, rfl, by decide +kernel, rfl, by decide +kernel, by decide +kernel⟩
abbrev s_Program___init__ : Stmt := mthS 37 1
abbrev N_Program___init__ : List Str := ["self", "modes", "registers", "signs", "rules", "rule"]
abbrev P_Program___init__ : List Str := ["self", "modes", "registers", "signs", "rules"]
theorem sc_Program___init__ : FnScope N_Program___init__ P_Program___init__ (defScope s_Program___init__) := ⟨rfl, rfl, rfl, by decide +kernel, rfl, by decide +kernel, by decide +kernel⟩
abbrev s_Program_idle : Stmt := mthS 37 2
abbrev N_Program_idle : List Str := ["cls", "signs"]
abbrev P_Program_idle : List Str := ["cls", "signs"]
theorem sc_Program_idle : FnScope N_Program_idle P_Program_idle (defScope s_Program_idle) := ⟨rfl, rfl, rfl, by decide +kernel, rfl, by decide +kernel, by decide +kernel⟩
abbrev s_same : Stmt := topS 42
abbrev N_same : List Str := ["_law_found", "_law_due", "_law_one", "_law_two"]
abbrev P_same : List Str := ["_law_found", "_law_due"]
theorem sc_same : FnScope N_same P_same (defScope s_same) := ⟨rfl, rfl, rfl, by decide +kernel, rfl, by decide +kernel, by decide +kernel⟩
abbrev s_Program_modes : Stmt := mthS 37 4
abbrev N_Program_modes : List Str := ["self"]
abbrev P_Program_modes : List Str := ["self"]
theorem sc_Program_modes : FnScope N_Program_modes P_Program_modes (defScope s_Program_modes) := ⟨rfl, rfl, rfl, by decide +kernel, rfl, by decide +kernel, by decide +kernel⟩
abbrev s_Program_registers : Stmt := mthS 37 5
abbrev N_Program_registers : List Str := ["self"]
abbrev P_Program_registers : List Str := ["self"]
theorem sc_Program_registers : FnScope N_Program_registers P_Program_registers (defScope s_Program_registers) := ⟨rfl, rfl, rfl, by decide +kernel, rfl, by decide +kernel, by decide +kernel⟩
abbrev s_Program_signs : Stmt := mthS 37 6
abbrev N_Program_signs : List Str := ["self"]
abbrev P_Program_signs : List Str := ["self"]
theorem sc_Program_signs : FnScope N_Program_signs P_Program_signs (defScope s_Program_signs) := ⟨rfl, rfl, rfl, by decide +kernel, rfl, by decide +kernel, by decide +kernel⟩
abbrev s_Program_rules : Stmt := mthS 37 7
abbrev N_Program_rules : List Str := ["self"]
abbrev P_Program_rules : List Str := ["self"]
theorem sc_Program_rules : FnScope N_Program_rules P_Program_rules (defScope s_Program_rules) := ⟨rfl, rfl, rfl, by decide +kernel, rfl, by decide +kernel, by decide +kernel⟩
abbrev s_Program_width : Stmt := mthS 37 3
abbrev N_Program_width : List Str := ["self"]
abbrev P_Program_width : List Str := ["self"]
theorem sc_Program_width : FnScope N_Program_width P_Program_width (defScope s_Program_width) := ⟨rfl, rfl, rfl, by decide +kernel, rfl, by decide +kernel, by decide +kernel⟩
abbrev s_Program_first_state : Stmt := mthS 37 9
abbrev N_Program_first_state : List Str := ["self"]
abbrev P_Program_first_state : List Str := ["self"]
theorem sc_Program_first_state : FnScope N_Program_first_state P_Program_first_state (defScope s_Program_first_state) := ⟨rfl, rfl, rfl, by decide +kernel, rfl, by decide +kernel, by decide +kernel⟩
abbrev s_Program_is_state : Stmt := mthS 37 10
abbrev N_Program_is_state : List Str := ["self", "value", "mode", "values", "number"]
abbrev P_Program_is_state : List Str := ["self", "value"]
theorem sc_Program_is_state : FnScope N_Program_is_state P_Program_is_state (defScope s_Program_is_state) := ⟨rfl, rfl, rfl, by decide +kernel, rfl, by decide +kernel, by decide +kernel⟩
abbrev s_check_state : Stmt := topS 35
abbrev N_check_state : List Str := ["program", "value"]
abbrev P_check_state : List Str := ["program", "value"]
theorem sc_check_state : FnScope N_check_state P_check_state (defScope s_check_state) := ⟨rfl, rfl, rfl, by decide +kernel, rfl, by decide +kernel, by decide +kernel⟩
abbrev s_Program_is_event : Stmt := mthS 37 11
abbrev N_Program_is_event : List Str := ["self", "value", "sign", "amount"]
abbrev P_Program_is_event : List Str := ["self", "value"]
theorem sc_Program_is_event : FnScope N_Program_is_event P_Program_is_event (defScope s_Program_is_event) := ⟨rfl, rfl, rfl, by decide +kernel, rfl, by decide +kernel, by decide +kernel⟩
abbrev s_check_events : Stmt := topS 36
abbrev N_check_events : List Str := ["program", "events", "index", "event"]
abbrev P_check_events : List Str := ["program", "events"]
theorem sc_check_events : FnScope N_check_events P_check_events (defScope s_check_events) := ⟨rfl, rfl, rfl, by decide +kernel, rfl, by decide +kernel, by decide +kernel⟩
abbrev s_Program__moved : Stmt := mthS 37 15
abbrev N_Program__moved : List Str := ["self", "state", "event", "mode", "values", "sign", "amount", "rule", "known", "name", "number", "fresh", "terms", "source", "factor"]
abbrev P_Program__moved : List Str := ["self", "state", "event"]
theorem sc_Program__moved : FnScope N_Program__moved P_Program__moved (defScope s_Program__moved) := ⟨rfl, rfl, rfl, by decide +kernel, rfl, by decide +kernel, by decide +kernel⟩
abbrev s_Program_run : Stmt := mthS 37 13
abbrev N_Program_run : List Str := ["self", "state", "events", "event"]
abbrev P_Program_run : List Str := ["self", "state", "events"]
theorem sc_Program_run : FnScope N_Program_run P_Program_run (defScope s_Program_run) := ⟨rfl, rfl, rfl, by decide +kernel, rfl, by decide +kernel, by decide +kernel⟩
abbrev s_bad_name : Stmt := topS 48
abbrev N_bad_name : List Str := ["_law_bag_here"]
abbrev P_bad_name : List Str := ["_law_bag_here"]
theorem sc_bad_name : FnScope N_bad_name P_bad_name (defScope s_bad_name) := ⟨rfl, rfl, rfl, by decide +kernel, rfl, by decide +kernel, by decide +kernel⟩
abbrev s_fields : Stmt := topS 43
abbrev N_fields : List Str := ["_law_e"]
abbrev P_fields : List Str := ["_law_e"]
theorem sc_fields : FnScope N_fields P_fields (defScope s_fields) := ⟨rfl, rfl, rfl, by decide +kernel, rfl, by decide +kernel, by decide +kernel⟩
abbrev s_got : Stmt := topS 44
abbrev N_got : List Str := ["_law_deed", "_law_e"]
abbrev P_got : List Str := ["_law_deed"]
theorem sc_got : FnScope N_got P_got (defScope s_got) := ⟨rfl, rfl, rfl, by decide +kernel, rfl, by decide +kernel, by decide +kernel⟩
abbrev s_why : Stmt := topS 45
abbrev N_why : List Str := ["_law_deed", "_law_found"]
abbrev P_why : List Str := ["_law_deed"]
theorem sc_why : FnScope N_why P_why (defScope s_why) := ⟨rfl, rfl, rfl, by decide +kernel, rfl, by decide +kernel, by decide +kernel⟩
abbrev s_whys : Stmt := topS 46
abbrev N_whys : List Str := ["_law_deeds", "_law_deed"]
abbrev P_whys : List Str := ["_law_deeds"]
theorem sc_whys : FnScope N_whys P_whys (defScope s_whys) := ⟨rfl, rfl, rfl, by decide +kernel, rfl, by decide +kernel, by decide +kernel⟩
abbrev s_law : Stmt := topS 49
abbrev N_law : List Str := ["_law_script", "_law_bag_here", "_law_names_here", "_law_made", "_law_signs", "_law_one", "_law_some", "_law_odd", "_law_deeds", "_law_due"]
abbrev P_law : List Str := ["_law_script"]
theorem sc_law : FnScope N_law P_law (defScope s_law) := ⟨rfl, rfl, rfl, by decide +kernel, rfl, by decide +kernel, by decide +kernel⟩
abbrev s_DuplicateName___init__ : Stmt := mthS 5 0
abbrev N_DuplicateName___init__ : List Str := ["self", "name"]
abbrev P_DuplicateName___init__ : List Str := ["self", "name"]
theorem sc_DuplicateName___init__ : FnScope N_DuplicateName___init__ P_DuplicateName___init__ (defScope s_DuplicateName___init__) := ⟨rfl, rfl, rfl, by decide +kernel, rfl, by decide +kernel, by decide +kernel⟩
abbrev s_DuplicateRule___init__ : Stmt := mthS 9 0
abbrev N_DuplicateRule___init__ : List Str := ["self", "index"]
abbrev P_DuplicateRule___init__ : List Str := ["self", "index"]
theorem sc_DuplicateRule___init__ : FnScope N_DuplicateRule___init__ P_DuplicateRule___init__ (defScope s_DuplicateRule___init__) := ⟨rfl, rfl, rfl, by decide +kernel, rfl, by decide +kernel, by decide +kernel⟩
abbrev s_InvalidCount___init__ : Stmt := mthS 6 0
abbrev N_InvalidCount___init__ : List Str := ["self", "given"]
abbrev P_InvalidCount___init__ : List Str := ["self", "given"]
theorem sc_InvalidCount___init__ : FnScope N_InvalidCount___init__ P_InvalidCount___init__ (defScope s_InvalidCount___init__) := ⟨rfl, rfl, rfl, by decide +kernel, rfl, by decide +kernel, by decide +kernel⟩
abbrev s_InvalidEvent___init__ : Stmt := mthS 11 0
abbrev N_InvalidEvent___init__ : List Str := ["self", "index"]
abbrev P_InvalidEvent___init__ : List Str := ["self", "index"]
theorem sc_InvalidEvent___init__ : FnScope N_InvalidEvent___init__ P_InvalidEvent___init__ (defScope s_InvalidEvent___init__) := ⟨rfl, rfl, rfl, by decide +kernel, rfl, by decide +kernel, by decide +kernel⟩
abbrev s_InvalidName___init__ : Stmt := mthS 4 0
abbrev N_InvalidName___init__ : List Str := ["self", "given"]
abbrev P_InvalidName___init__ : List Str := ["self", "given"]
theorem sc_InvalidName___init__ : FnScope N_InvalidName___init__ P_InvalidName___init__ (defScope s_InvalidName___init__) := ⟨rfl, rfl, rfl, by decide +kernel, rfl, by decide +kernel, by decide +kernel⟩
abbrev s_InvalidRule___init__ : Stmt := mthS 8 0
abbrev N_InvalidRule___init__ : List Str := ["self", "index"]
abbrev P_InvalidRule___init__ : List Str := ["self", "index"]
theorem sc_InvalidRule___init__ : FnScope N_InvalidRule___init__ P_InvalidRule___init__ (defScope s_InvalidRule___init__) := ⟨rfl, rfl, rfl, by decide +kernel, rfl, by decide +kernel, by decide +kernel⟩
abbrev s_InvalidState___init__ : Stmt := mthS 10 0
abbrev N_InvalidState___init__ : List Str := ["self"]
abbrev P_InvalidState___init__ : List Str := ["self"]
theorem sc_InvalidState___init__ : FnScope N_InvalidState___init__ P_InvalidState___init__ (defScope s_InvalidState___init__) := ⟨rfl, rfl, rfl, by decide +kernel, rfl, by decide +kernel, by decide +kernel⟩
abbrev s_TooWide___init__ : Stmt := mthS 7 0
abbrev N_TooWide___init__ : List Str := ["self", "most"]
abbrev P_TooWide___init__ : List Str := ["self", "most"]
theorem sc_TooWide___init__ : FnScope N_TooWide___init__ P_TooWide___init__ (defScope s_TooWide___init__) := ⟨rfl, rfl, rfl, by decide +kernel, rfl, by decide +kernel, by decide +kernel⟩
structure Fc (K : PySem.W.Frag) (mg : Str → Option Value) where
  z_all : mg "all" = none
  z_bool : mg "bool" = none
  z_enumerate : mg "enumerate" = none
  z_int : mg "int" = none
  z_isinstance : mg "isinstance" = none
  z_len : mg "len" = none
  z_list : mg "list" = none
  z_range : mg "range" = none
  z_str : mg "str" = none
  z_sum : mg "sum" = none
  z_tuple : mg "tuple" = none
  z_zip : mg "zip" = none
  t_AMOUNT : Tok
  c_AMOUNT : mg "AMOUNT" = some (.str "amount" t_AMOUNT)
  t_LETTERS : Tok
  c_LETTERS : mg "LETTERS" = some (.str "abcdefghijklmnopqrstuvwxyz" t_LETTERS)
  t_MOST_AMOUNT : Tok
  c_MOST_AMOUNT : mg "MOST_AMOUNT" = some (.int 1000000000000 t_MOST_AMOUNT)
  t_MOST_FACTOR : Tok
  c_MOST_FACTOR : mg "MOST_FACTOR" = some (.int 1000 t_MOST_FACTOR)
  t_MOST_LETTERS : Tok
  c_MOST_LETTERS : mg "MOST_LETTERS" = some (.int 6 t_MOST_LETTERS)
  t_MOST_MODES : Tok
  c_MOST_MODES : mg "MOST_MODES" = some (.int 4 t_MOST_MODES)
  t_MOST_REGISTERS : Tok
  c_MOST_REGISTERS : mg "MOST_REGISTERS" = some (.int 4 t_MOST_REGISTERS)
  t_MOST_SIGNS : Tok
  c_MOST_SIGNS : mg "MOST_SIGNS" = some (.int 6 t_MOST_SIGNS)
  t_ONE : Tok
  c_ONE : mg "ONE" = some (.str "one" t_ONE)
  a_bag : Addr
  fd_bag : FuncData
  F_bag : Fun K "_law_bag" "_law_bag" s_bag a_bag fd_bag
  g_bag : mg "_law_bag" = some (.ref a_bag)
  b_bag : Binds K fd_bag P_bag []
  a_take : Addr
  fd_take : FuncData
  F_take : Fun K "_law_take" "_law_take" s_take a_take fd_take
  g_take : mg "_law_take" = some (.ref a_take)
  b_take : Binds K fd_take P_take []
  a_of : Addr
  fd_of : FuncData
  F_of : Fun K "_law_of" "_law_of" s_of a_of fd_of
  g_of : mg "_law_of" = some (.ref a_of)
  b_of : Binds K fd_of P_of []
  a_names : Addr
  fd_names : FuncData
  F_names : Fun K "_law_names" "_law_names" s_names a_names fd_names
  g_names : mg "_law_names" = some (.ref a_names)
  b_names : Binds K fd_names P_names []
  a_is_list : Addr
  fd_is_list : FuncData
  F_is_list : Fun K "is_list" "is_list" s_is_list a_is_list fd_is_list
  g_is_list : mg "is_list" = some (.ref a_is_list)
  b_is_list : Binds K fd_is_list P_is_list []
  a_is_name : Addr
  fd_is_name : FuncData
  F_is_name : Fun K "is_name" "is_name" s_is_name a_is_name fd_is_name
  g_is_name : mg "is_name" = some (.ref a_is_name)
  b_is_name : Binds K fd_is_name P_is_name []
  a_check_names : Addr
  fd_check_names : FuncData
  F_check_names : Fun K "check_names" "check_names" s_check_names a_check_names fd_check_names
  g_check_names : mg "check_names" = some (.ref a_check_names)
  b_check_names : Binds K fd_check_names P_check_names []
  a_check_different : Addr
  fd_check_different : FuncData
  F_check_different : Fun K "check_different" "check_different" s_check_different a_check_different fd_check_different
  g_check_different : mg "check_different" = some (.ref a_check_different)
  b_check_different : Binds K fd_check_different P_check_different []
  a_check_count : Addr
  fd_check_count : FuncData
  F_check_count : Fun K "check_count" "check_count" s_check_count a_check_count fd_check_count
  g_check_count : mg "check_count" = some (.ref a_check_count)
  b_check_count : Binds K fd_check_count P_check_count []
  a_are_pairs : Addr
  fd_are_pairs : FuncData
  F_are_pairs : Fun K "are_pairs" "are_pairs" s_are_pairs a_are_pairs fd_are_pairs
  g_are_pairs : mg "are_pairs" = some (.ref a_are_pairs)
  b_are_pairs : Binds K fd_are_pairs P_are_pairs []
  a_is_whole : Addr
  fd_is_whole : FuncData
  F_is_whole : Fun K "is_whole" "is_whole" s_is_whole a_is_whole fd_is_whole
  g_is_whole : mg "is_whole" = some (.ref a_is_whole)
  b_is_whole : Binds K fd_is_whole P_is_whole []
  a_is_integer : Addr
  fd_is_integer : FuncData
  F_is_integer : Fun K "is_integer" "is_integer" s_is_integer a_is_integer fd_is_integer
  g_is_integer : mg "is_integer" = some (.ref a_is_integer)
  b_is_integer : Binds K fd_is_integer P_is_integer []
  a_are_terms : Addr
  fd_are_terms : FuncData
  F_are_terms : Fun K "are_terms" "are_terms" s_are_terms a_are_terms fd_are_terms
  g_are_terms : mg "are_terms" = some (.ref a_are_terms)
  b_are_terms : Binds K fd_are_terms P_are_terms []
  a_is_rule : Addr
  fd_is_rule : FuncData
  F_is_rule : Fun K "is_rule" "is_rule" s_is_rule a_is_rule fd_is_rule
  g_is_rule : mg "is_rule" = some (.ref a_is_rule)
  b_is_rule : Binds K fd_is_rule P_is_rule []
  a_check_rules : Addr
  fd_check_rules : FuncData
  F_check_rules : Fun K "check_rules" "check_rules" s_check_rules a_check_rules fd_check_rules
  g_check_rules : mg "check_rules" = some (.ref a_check_rules)
  b_check_rules : Binds K fd_check_rules P_check_rules []
  a_Program___init__ : Addr
  fd_Program___init__ : FuncData
  F_Program___init__ : FunV K "__init__" "Program.__init__" s_Program___init__ a_Program___init__ fd_Program___init__
  C_dE : Addr
  kt_dE : KT0 K C_dE
  bd_Program___init__ : Binds K fd_Program___init__ P_Program___init__ [.ref C_dE]
  b_Program___init__ : Binds K fd_Program___init__ P_Program___init__ []
  a_Program_idle : Addr
  fd_Program_idle : FuncData
  F_Program_idle : Fun K "idle" "Program.idle" s_Program_idle a_Program_idle fd_Program_idle
  bs_Program_idle : ∀ us rest : List Value, us.length = ([("cls" : Str)]).length → bindArgs fd_Program_idle ⟨us ++ rest, []⟩ = (newTuple rest >>= fun t => pure ([("cls" : Str)].zip us ++ [(("signs" : Str), t)]))
  a_same : Addr
  fd_same : FuncData
  F_same : Fun K "_law_same" "_law_same" s_same a_same fd_same
  g_same : mg "_law_same" = some (.ref a_same)
  b_same : Binds K fd_same P_same []
  a_Program_modes : Addr
  fd_Program_modes : FuncData
  F_Program_modes : Fun K "modes" "Program.modes" s_Program_modes a_Program_modes fd_Program_modes
  b_Program_modes : Binds K fd_Program_modes P_Program_modes []
  a_Program_registers : Addr
  fd_Program_registers : FuncData
  F_Program_registers : Fun K "registers" "Program.registers" s_Program_registers a_Program_registers fd_Program_registers
  b_Program_registers : Binds K fd_Program_registers P_Program_registers []
  a_Program_signs : Addr
  fd_Program_signs : FuncData
  F_Program_signs : Fun K "signs" "Program.signs" s_Program_signs a_Program_signs fd_Program_signs
  b_Program_signs : Binds K fd_Program_signs P_Program_signs []
  a_Program_rules : Addr
  fd_Program_rules : FuncData
  F_Program_rules : Fun K "rules" "Program.rules" s_Program_rules a_Program_rules fd_Program_rules
  b_Program_rules : Binds K fd_Program_rules P_Program_rules []
  a_Program_width : Addr
  fd_Program_width : FuncData
  F_Program_width : Fun K "width" "Program.width" s_Program_width a_Program_width fd_Program_width
  b_Program_width : Binds K fd_Program_width P_Program_width []
  a_Program_first_state : Addr
  fd_Program_first_state : FuncData
  F_Program_first_state : Fun K "first_state" "Program.first_state" s_Program_first_state a_Program_first_state fd_Program_first_state
  b_Program_first_state : Binds K fd_Program_first_state P_Program_first_state []
  a_Program_is_state : Addr
  fd_Program_is_state : FuncData
  F_Program_is_state : Fun K "is_state" "Program.is_state" s_Program_is_state a_Program_is_state fd_Program_is_state
  b_Program_is_state : Binds K fd_Program_is_state P_Program_is_state []
  a_check_state : Addr
  fd_check_state : FuncData
  F_check_state : Fun K "check_state" "check_state" s_check_state a_check_state fd_check_state
  g_check_state : mg "check_state" = some (.ref a_check_state)
  b_check_state : Binds K fd_check_state P_check_state []
  a_Program_is_event : Addr
  fd_Program_is_event : FuncData
  F_Program_is_event : Fun K "is_event" "Program.is_event" s_Program_is_event a_Program_is_event fd_Program_is_event
  b_Program_is_event : Binds K fd_Program_is_event P_Program_is_event []
  a_check_events : Addr
  fd_check_events : FuncData
  F_check_events : Fun K "check_events" "check_events" s_check_events a_check_events fd_check_events
  g_check_events : mg "check_events" = some (.ref a_check_events)
  b_check_events : Binds K fd_check_events P_check_events []
  a_Program__moved : Addr
  fd_Program__moved : FuncData
  F_Program__moved : Fun K "_moved" "Program._moved" s_Program__moved a_Program__moved fd_Program__moved
  b_Program__moved : Binds K fd_Program__moved P_Program__moved []
  a_Program_run : Addr
  fd_Program_run : FuncData
  F_Program_run : Fun K "run" "Program.run" s_Program_run a_Program_run fd_Program_run
  b_Program_run : Binds K fd_Program_run P_Program_run []
  a_bad_name : Addr
  fd_bad_name : FuncData
  F_bad_name : Fun K "_law_bad_name" "_law_bad_name" s_bad_name a_bad_name fd_bad_name
  g_bad_name : mg "_law_bad_name" = some (.ref a_bad_name)
  b_bad_name : Binds K fd_bad_name P_bad_name []
  a_fields : Addr
  fd_fields : FuncData
  F_fields : Fun K "_law_fields" "_law_fields" s_fields a_fields fd_fields
  g_fields : mg "_law_fields" = some (.ref a_fields)
  b_fields : Binds K fd_fields P_fields []
  a_got : Addr
  fd_got : FuncData
  F_got : Fun K "_law_got" "_law_got" s_got a_got fd_got
  g_got : mg "_law_got" = some (.ref a_got)
  b_got : Binds K fd_got P_got []
  a_why : Addr
  fd_why : FuncData
  F_why : Fun K "_law_why" "_law_why" s_why a_why fd_why
  g_why : mg "_law_why" = some (.ref a_why)
  b_why : Binds K fd_why P_why []
  a_whys : Addr
  fd_whys : FuncData
  F_whys : Fun K "_law_whys" "_law_whys" s_whys a_whys fd_whys
  g_whys : mg "_law_whys" = some (.ref a_whys)
  b_whys : Binds K fd_whys P_whys []
  a_DuplicateName___init__ : Addr
  fd_DuplicateName___init__ : FuncData
  F_DuplicateName___init__ : Fun K "__init__" "DuplicateName.__init__" s_DuplicateName___init__ a_DuplicateName___init__ fd_DuplicateName___init__
  b_DuplicateName___init__ : Binds K fd_DuplicateName___init__ P_DuplicateName___init__ []
  a_DuplicateRule___init__ : Addr
  fd_DuplicateRule___init__ : FuncData
  F_DuplicateRule___init__ : Fun K "__init__" "DuplicateRule.__init__" s_DuplicateRule___init__ a_DuplicateRule___init__ fd_DuplicateRule___init__
  b_DuplicateRule___init__ : Binds K fd_DuplicateRule___init__ P_DuplicateRule___init__ []
  a_InvalidCount___init__ : Addr
  fd_InvalidCount___init__ : FuncData
  F_InvalidCount___init__ : Fun K "__init__" "InvalidCount.__init__" s_InvalidCount___init__ a_InvalidCount___init__ fd_InvalidCount___init__
  b_InvalidCount___init__ : Binds K fd_InvalidCount___init__ P_InvalidCount___init__ []
  a_InvalidEvent___init__ : Addr
  fd_InvalidEvent___init__ : FuncData
  F_InvalidEvent___init__ : Fun K "__init__" "InvalidEvent.__init__" s_InvalidEvent___init__ a_InvalidEvent___init__ fd_InvalidEvent___init__
  b_InvalidEvent___init__ : Binds K fd_InvalidEvent___init__ P_InvalidEvent___init__ []
  a_InvalidName___init__ : Addr
  fd_InvalidName___init__ : FuncData
  F_InvalidName___init__ : Fun K "__init__" "InvalidName.__init__" s_InvalidName___init__ a_InvalidName___init__ fd_InvalidName___init__
  b_InvalidName___init__ : Binds K fd_InvalidName___init__ P_InvalidName___init__ []
  a_InvalidRule___init__ : Addr
  fd_InvalidRule___init__ : FuncData
  F_InvalidRule___init__ : Fun K "__init__" "InvalidRule.__init__" s_InvalidRule___init__ a_InvalidRule___init__ fd_InvalidRule___init__
  b_InvalidRule___init__ : Binds K fd_InvalidRule___init__ P_InvalidRule___init__ []
  a_InvalidState___init__ : Addr
  fd_InvalidState___init__ : FuncData
  F_InvalidState___init__ : Fun K "__init__" "InvalidState.__init__" s_InvalidState___init__ a_InvalidState___init__ fd_InvalidState___init__
  b_InvalidState___init__ : Binds K fd_InvalidState___init__ P_InvalidState___init__ []
  a_TooWide___init__ : Addr
  fd_TooWide___init__ : FuncData
  F_TooWide___init__ : Fun K "__init__" "TooWide.__init__" s_TooWide___init__ a_TooWide___init__ fd_TooWide___init__
  b_TooWide___init__ : Binds K fd_TooWide___init__ P_TooWide___init__ []
  C_Program : Addr
  cl_Program : Cls K C_Program
  mg_Program : mg "Program" = some (.ref C_Program)
  mc_Program : Value
  cr_Program : ClX.CRead K C_Program mc_Program
  C_DuplicateName : Addr
  mg_DuplicateName : mg "DuplicateName" = some (.ref C_DuplicateName)
  ox_DuplicateName : OexC K C_DuplicateName
  xf_DuplicateName : XfC K C_DuplicateName
  ic_DuplicateName : PySem.W.findIn K (.ref C_DuplicateName) "__init__" = some (some (.ref a_DuplicateName___init__))
  ti_DuplicateName : PySem.W.typeIn K (.ref a_DuplicateName___init__) = some (.type "function")
  nf_DuplicateName_code : PySem.W.findIn K (.ref C_DuplicateName) "code" = some none
  nf_DuplicateName_name : PySem.W.findIn K (.ref C_DuplicateName) "name" = some none
  C_DuplicateRule : Addr
  mg_DuplicateRule : mg "DuplicateRule" = some (.ref C_DuplicateRule)
  ox_DuplicateRule : OexC K C_DuplicateRule
  xf_DuplicateRule : XfC K C_DuplicateRule
  ic_DuplicateRule : PySem.W.findIn K (.ref C_DuplicateRule) "__init__" = some (some (.ref a_DuplicateRule___init__))
  ti_DuplicateRule : PySem.W.typeIn K (.ref a_DuplicateRule___init__) = some (.type "function")
  nf_DuplicateRule_code : PySem.W.findIn K (.ref C_DuplicateRule) "code" = some none
  nf_DuplicateRule_index : PySem.W.findIn K (.ref C_DuplicateRule) "index" = some none
  C_InvalidCount : Addr
  mg_InvalidCount : mg "InvalidCount" = some (.ref C_InvalidCount)
  ox_InvalidCount : OexC K C_InvalidCount
  xf_InvalidCount : XfC K C_InvalidCount
  ic_InvalidCount : PySem.W.findIn K (.ref C_InvalidCount) "__init__" = some (some (.ref a_InvalidCount___init__))
  ti_InvalidCount : PySem.W.typeIn K (.ref a_InvalidCount___init__) = some (.type "function")
  nf_InvalidCount_code : PySem.W.findIn K (.ref C_InvalidCount) "code" = some none
  nf_InvalidCount_given : PySem.W.findIn K (.ref C_InvalidCount) "given" = some none
  C_InvalidEvent : Addr
  mg_InvalidEvent : mg "InvalidEvent" = some (.ref C_InvalidEvent)
  ox_InvalidEvent : OexC K C_InvalidEvent
  xf_InvalidEvent : XfC K C_InvalidEvent
  ic_InvalidEvent : PySem.W.findIn K (.ref C_InvalidEvent) "__init__" = some (some (.ref a_InvalidEvent___init__))
  ti_InvalidEvent : PySem.W.typeIn K (.ref a_InvalidEvent___init__) = some (.type "function")
  nf_InvalidEvent_code : PySem.W.findIn K (.ref C_InvalidEvent) "code" = some none
  nf_InvalidEvent_index : PySem.W.findIn K (.ref C_InvalidEvent) "index" = some none
  C_InvalidName : Addr
  mg_InvalidName : mg "InvalidName" = some (.ref C_InvalidName)
  ox_InvalidName : OexC K C_InvalidName
  xf_InvalidName : XfC K C_InvalidName
  ic_InvalidName : PySem.W.findIn K (.ref C_InvalidName) "__init__" = some (some (.ref a_InvalidName___init__))
  ti_InvalidName : PySem.W.typeIn K (.ref a_InvalidName___init__) = some (.type "function")
  nf_InvalidName_code : PySem.W.findIn K (.ref C_InvalidName) "code" = some none
  nf_InvalidName_given : PySem.W.findIn K (.ref C_InvalidName) "given" = some none
  C_InvalidRule : Addr
  mg_InvalidRule : mg "InvalidRule" = some (.ref C_InvalidRule)
  ox_InvalidRule : OexC K C_InvalidRule
  xf_InvalidRule : XfC K C_InvalidRule
  ic_InvalidRule : PySem.W.findIn K (.ref C_InvalidRule) "__init__" = some (some (.ref a_InvalidRule___init__))
  ti_InvalidRule : PySem.W.typeIn K (.ref a_InvalidRule___init__) = some (.type "function")
  nf_InvalidRule_code : PySem.W.findIn K (.ref C_InvalidRule) "code" = some none
  nf_InvalidRule_index : PySem.W.findIn K (.ref C_InvalidRule) "index" = some none
  C_InvalidState : Addr
  mg_InvalidState : mg "InvalidState" = some (.ref C_InvalidState)
  ox_InvalidState : OexC K C_InvalidState
  xf_InvalidState : XfC K C_InvalidState
  ic_InvalidState : PySem.W.findIn K (.ref C_InvalidState) "__init__" = some (some (.ref a_InvalidState___init__))
  ti_InvalidState : PySem.W.typeIn K (.ref a_InvalidState___init__) = some (.type "function")
  nf_InvalidState_code : PySem.W.findIn K (.ref C_InvalidState) "code" = some none
  C_TooWide : Addr
  mg_TooWide : mg "TooWide" = some (.ref C_TooWide)
  ox_TooWide : OexC K C_TooWide
  xf_TooWide : XfC K C_TooWide
  ic_TooWide : PySem.W.findIn K (.ref C_TooWide) "__init__" = some (some (.ref a_TooWide___init__))
  ti_TooWide : PySem.W.typeIn K (.ref a_TooWide___init__) = some (.type "function")
  nf_TooWide_code : PySem.W.findIn K (.ref C_TooWide) "code" = some none
  nf_TooWide_most : PySem.W.findIn K (.ref C_TooWide) "most" = some none
  C_TwinError : Addr
  mg_TwinError : mg "TwinError" = some (.ref C_TwinError)
  C_Missing : Addr
  mg_Missing : mg "Missing" = some (.ref C_Missing)
  C_NothingLeft : Addr
  mg_NothingLeft : mg "NothingLeft" = some (.ref C_NothingLeft)
  xm_DuplicateName : PySem.W.exmAny K (.ref C_DuplicateName) [.ref C_TwinError, .ref C_Missing, .ref C_NothingLeft] = some true
  xm_DuplicateRule : PySem.W.exmAny K (.ref C_DuplicateRule) [.ref C_TwinError, .ref C_Missing, .ref C_NothingLeft] = some true
  xm_InvalidCount : PySem.W.exmAny K (.ref C_InvalidCount) [.ref C_TwinError, .ref C_Missing, .ref C_NothingLeft] = some true
  xm_InvalidEvent : PySem.W.exmAny K (.ref C_InvalidEvent) [.ref C_TwinError, .ref C_Missing, .ref C_NothingLeft] = some true
  xm_InvalidName : PySem.W.exmAny K (.ref C_InvalidName) [.ref C_TwinError, .ref C_Missing, .ref C_NothingLeft] = some true
  xm_InvalidRule : PySem.W.exmAny K (.ref C_InvalidRule) [.ref C_TwinError, .ref C_Missing, .ref C_NothingLeft] = some true
  xm_InvalidState : PySem.W.exmAny K (.ref C_InvalidState) [.ref C_TwinError, .ref C_Missing, .ref C_NothingLeft] = some true
  xm_TooWide : PySem.W.exmAny K (.ref C_TooWide) [.ref C_TwinError, .ref C_Missing, .ref C_NothingLeft] = some true
  pm_Program_idle : Addr
  cm_Program_idle : ClX.CMet K C_Program mc_Program "idle" pm_Program_idle a_Program_idle
  na_Program__modes : NoAttr K C_Program "_modes"
  na_Program__registers : NoAttr K C_Program "_registers"
  na_Program__rule_for : NoAttr K C_Program "_rule_for"
  na_Program__rules : NoAttr K C_Program "_rules"
  na_Program__signs : NoAttr K C_Program "_signs"
  mk_Program : Mk K C_Program a_Program___init__
  me_Program__moved : Meth K C_Program "_moved" a_Program__moved
  me_Program_first_state : Meth K C_Program "first_state" a_Program_first_state
  me_Program_is_event : Meth K C_Program "is_event" a_Program_is_event
  me_Program_is_state : Meth K C_Program "is_state" a_Program_is_state
  me_Program_modes : Meth K C_Program "modes" a_Program_modes
  me_Program_registers : Meth K C_Program "registers" a_Program_registers
  me_Program_rules : Meth K C_Program "rules" a_Program_rules
  me_Program_run : Meth K C_Program "run" a_Program_run
  me_Program_signs : Meth K C_Program "signs" a_Program_signs
  pa_Program_width : Addr
  pr_Program_width : PropOf K C_Program "width" pa_Program_width a_Program_width
  tv_Program_MOST_WIDTH : Tok
  cv_Program_MOST_WIDTH : ClX.CVal K C_Program mc_Program "MOST_WIDTH" (.int 8) (.int 8 tv_Program_MOST_WIDTH)
section
variable {P : Program} {w : World} {K : PySem.W.Frag} {mg : Str → Option Value} {base : Heap} {b : Bg}
def cSc (ns : List (Str × NameKind)) : Scope := { kind := .function, names := ns, isGenerator := false, isCoroutine := false, more := [] }
def codesT : Codes := [("DuplicateName", ["name"]), ("DuplicateRule", ["index"]), ("InvalidCount", ["given"]), ("InvalidEvent", ["index"]), ("InvalidName", ["given"]), ("InvalidRule", ["index"]), ("InvalidState", []), ("TooWide", ["most"])]
abbrev xsT (Z : Fc K mg) : List Value := [.ref Z.C_TwinError, .ref Z.C_Missing, .ref Z.C_NothingLeft]

def bodyA : Stmt → List Stmt
  | .FunctionDef (body := b) .. => b
  | .For (body := b) .. => b
  | .If (body := b) .. => b
  | .While (body := b) .. => b
  | _ => []
def exprA : Stmt → Expr
  | .Assign (value := e) .. => e
  | .Expr (value := e) .. => e
  | .If (test := e) .. => e
  | .Return (value := some e) .. => e
  | _ => .Constant .none 0 ⟨0, 0, 0, 0⟩
def subA : Expr → List Expr
  | .Call f as _ _ => f :: as
  | .UnaryOp _ e _ => [e]
  | .BoolOp _ es _ => es
  | .List es _ => es
  | .Tuple es _ _ => es
  | .Compare e _ es _ => e :: es
  | .BinOp a _ c _ => [a, c]
  | _ => []
def atA {α : Type} (d : α) (l : List α) (i : Nat) : α := l.getD i d
def stA (l : List Stmt) (i : Nat) : Stmt := l.getD i (.Pass ⟨0, 0, 0, 0⟩)
def exA (l : List Expr) (i : Nat) : Expr := l.getD i (.Constant .none 0 ⟨0, 0, 0, 0⟩)
def lamA (q : Str) (fv : List Str) (df : Bool) : Expr → Lam
  | .Lambda p e sc _ => ⟨q, p, e, sc, df, fv⟩
  | e => ⟨q, ⟨[], [], none, [], [], none, []⟩, e, { kind := .function, names := [], isGenerator := false, isCoroutine := false, more := [] }, df, fv⟩

def lamL0 : Lam := lamA (("law" : Str) ++ ".<locals>." ++ "<lambda>") ["_law_odd", "_law_names_here"] true (exA (subA (exprA (stA (bodyA s_law) 6))) 2)
def lamL1 : Lam := lamA (("law" : Str) ++ ".<locals>." ++ "<lambda>") ["_law_names_here"] true (exA (subA (exprA (stA (bodyA s_law) 6))) 1)
def lamL2 : Lam := lamA (("law" : Str) ++ ".<locals>." ++ "<lambda>") [] false (exA (subA (exprA (stA (bodyA s_law) 6))) 0)
def lamL3 : Lam := lamA (("law" : Str) ++ ".<locals>." ++ "<lambda>") ["_law_names_here"] true (exA (subA (exprA (stA (bodyA s_law) 7))) 1)
def NM : Addr → Str := fun _ => (("law" : Str) ++ ".<locals>." ++ "<lambda>")

theorem ok_DuplicateName___init__ (Z : Fc K mg) : FnOk P w K mg base CX0 1 Z.a_DuplicateName___init__ Z.fd_DuplicateName___init__ P_DuplicateName___init__ (spExc Z.C_DuplicateName "DuplicateName" ["name"]) := by
  refine Z.F_DuplicateName___init__.ok sc_DuplicateName___init__ (fun vs H Q E h => ?_) (fun cdv A outer s H vs Q E hr h => ?_)
  · obtain ⟨a, ws, rfl, hl, _⟩ := h
    show ws.length + 1 = _
    rw [hl] <;> rfl
  · obtain ⟨a, ws, rfl, hl, h3, h4⟩ := h
    match ws, hl with
    | [w0], _ =>
      exact ⟨_, pss_cons (ps_ost (pv 0) pe_str) (pss_one (ps_ost (pv 0) (pv 1))), read_exc1 (E := E) Z.ox_DuplicateName Z.nf_DuplicateName_code Z.nf_DuplicateName_name ⟨a, _, rfl, rfl, h3, h4⟩ rfl rfl⟩
theorem ok_DuplicateRule___init__ (Z : Fc K mg) : FnOk P w K mg base CX0 1 Z.a_DuplicateRule___init__ Z.fd_DuplicateRule___init__ P_DuplicateRule___init__ (spExc Z.C_DuplicateRule "DuplicateRule" ["index"]) := by
  refine Z.F_DuplicateRule___init__.ok sc_DuplicateRule___init__ (fun vs H Q E h => ?_) (fun cdv A outer s H vs Q E hr h => ?_)
  · obtain ⟨a, ws, rfl, hl, _⟩ := h
    show ws.length + 1 = _
    rw [hl] <;> rfl
  · obtain ⟨a, ws, rfl, hl, h3, h4⟩ := h
    match ws, hl with
    | [w0], _ =>
      exact ⟨_, pss_cons (ps_ost (pv 0) pe_str) (pss_one (ps_ost (pv 0) (pv 1))), read_exc1 (E := E) Z.ox_DuplicateRule Z.nf_DuplicateRule_code Z.nf_DuplicateRule_index ⟨a, _, rfl, rfl, h3, h4⟩ rfl rfl⟩
theorem ok_InvalidCount___init__ (Z : Fc K mg) : FnOk P w K mg base CX0 1 Z.a_InvalidCount___init__ Z.fd_InvalidCount___init__ P_InvalidCount___init__ (spExc Z.C_InvalidCount "InvalidCount" ["given"]) := by
  refine Z.F_InvalidCount___init__.ok sc_InvalidCount___init__ (fun vs H Q E h => ?_) (fun cdv A outer s H vs Q E hr h => ?_)
  · obtain ⟨a, ws, rfl, hl, _⟩ := h
    show ws.length + 1 = _
    rw [hl] <;> rfl
  · obtain ⟨a, ws, rfl, hl, h3, h4⟩ := h
    match ws, hl with
    | [w0], _ =>
      exact ⟨_, pss_cons (ps_ost (pv 0) pe_str) (pss_one (ps_ost (pv 0) (pv 1))), read_exc1 (E := E) Z.ox_InvalidCount Z.nf_InvalidCount_code Z.nf_InvalidCount_given ⟨a, _, rfl, rfl, h3, h4⟩ rfl rfl⟩
theorem ok_InvalidEvent___init__ (Z : Fc K mg) : FnOk P w K mg base CX0 1 Z.a_InvalidEvent___init__ Z.fd_InvalidEvent___init__ P_InvalidEvent___init__ (spExc Z.C_InvalidEvent "InvalidEvent" ["index"]) := by
  refine Z.F_InvalidEvent___init__.ok sc_InvalidEvent___init__ (fun vs H Q E h => ?_) (fun cdv A outer s H vs Q E hr h => ?_)
  · obtain ⟨a, ws, rfl, hl, _⟩ := h
    show ws.length + 1 = _
    rw [hl] <;> rfl
  · obtain ⟨a, ws, rfl, hl, h3, h4⟩ := h
    match ws, hl with
    | [w0], _ =>
      exact ⟨_, pss_cons (ps_ost (pv 0) pe_str) (pss_one (ps_ost (pv 0) (pv 1))), read_exc1 (E := E) Z.ox_InvalidEvent Z.nf_InvalidEvent_code Z.nf_InvalidEvent_index ⟨a, _, rfl, rfl, h3, h4⟩ rfl rfl⟩
theorem ok_InvalidName___init__ (Z : Fc K mg) : FnOk P w K mg base CX0 1 Z.a_InvalidName___init__ Z.fd_InvalidName___init__ P_InvalidName___init__ (spExc Z.C_InvalidName "InvalidName" ["given"]) := by
  refine Z.F_InvalidName___init__.ok sc_InvalidName___init__ (fun vs H Q E h => ?_) (fun cdv A outer s H vs Q E hr h => ?_)
  · obtain ⟨a, ws, rfl, hl, _⟩ := h
    show ws.length + 1 = _
    rw [hl] <;> rfl
  · obtain ⟨a, ws, rfl, hl, h3, h4⟩ := h
    match ws, hl with
    | [w0], _ =>
      exact ⟨_, pss_cons (ps_ost (pv 0) pe_str) (pss_one (ps_ost (pv 0) (pv 1))), read_exc1 (E := E) Z.ox_InvalidName Z.nf_InvalidName_code Z.nf_InvalidName_given ⟨a, _, rfl, rfl, h3, h4⟩ rfl rfl⟩
theorem ok_InvalidRule___init__ (Z : Fc K mg) : FnOk P w K mg base CX0 1 Z.a_InvalidRule___init__ Z.fd_InvalidRule___init__ P_InvalidRule___init__ (spExc Z.C_InvalidRule "InvalidRule" ["index"]) := by
  refine Z.F_InvalidRule___init__.ok sc_InvalidRule___init__ (fun vs H Q E h => ?_) (fun cdv A outer s H vs Q E hr h => ?_)
  · obtain ⟨a, ws, rfl, hl, _⟩ := h
    show ws.length + 1 = _
    rw [hl] <;> rfl
  · obtain ⟨a, ws, rfl, hl, h3, h4⟩ := h
    match ws, hl with
    | [w0], _ =>
      exact ⟨_, pss_cons (ps_ost (pv 0) pe_str) (pss_one (ps_ost (pv 0) (pv 1))), read_exc1 (E := E) Z.ox_InvalidRule Z.nf_InvalidRule_code Z.nf_InvalidRule_index ⟨a, _, rfl, rfl, h3, h4⟩ rfl rfl⟩
theorem ok_InvalidState___init__ (Z : Fc K mg) : FnOk P w K mg base CX0 1 Z.a_InvalidState___init__ Z.fd_InvalidState___init__ P_InvalidState___init__ (spExc Z.C_InvalidState "InvalidState" []) := by
  refine Z.F_InvalidState___init__.ok sc_InvalidState___init__ (fun vs H Q E h => ?_) (fun cdv A outer s H vs Q E hr h => ?_)
  · obtain ⟨a, ws, rfl, hl, _⟩ := h
    show ws.length + 1 = _
    rw [hl] <;> rfl
  · obtain ⟨a, ws, rfl, hl, h3, h4⟩ := h
    match ws, hl with
    | [], _ =>
      exact ⟨_, pss_one (ps_ost (pv 0) pe_str), read_exc0 (E := E) Z.ox_InvalidState Z.nf_InvalidState_code ⟨a, _, rfl, rfl, h3, h4⟩ rfl rfl⟩
theorem ok_TooWide___init__ (Z : Fc K mg) : FnOk P w K mg base CX0 1 Z.a_TooWide___init__ Z.fd_TooWide___init__ P_TooWide___init__ (spExc Z.C_TooWide "TooWide" ["most"]) := by
  refine Z.F_TooWide___init__.ok sc_TooWide___init__ (fun vs H Q E h => ?_) (fun cdv A outer s H vs Q E hr h => ?_)
  · obtain ⟨a, ws, rfl, hl, _⟩ := h
    show ws.length + 1 = _
    rw [hl] <;> rfl
  · obtain ⟨a, ws, rfl, hl, h3, h4⟩ := h
    match ws, hl with
    | [w0], _ =>
      exact ⟨_, pss_cons (ps_ost (pv 0) pe_str) (pss_one (ps_ost (pv 0) (pv 1))), read_exc1 (E := E) Z.ox_TooWide Z.nf_TooWide_code Z.nf_TooWide_most ⟨a, _, rfl, rfl, h3, h4⟩ rfl rfl⟩
theorem ok_bag (Z : Fc K mg) : FnOk P w K mg base CX0 1 Z.a_bag Z.fd_bag P_bag (spBag K) := by
  refine Z.F_bag.ok sc_bag (fun vs H Q E h => ?_) (fun cdv A outer s H vs Q E hr h => ?_)
  · obtain ⟨a, ns, rfl, _⟩ := h
    rfl
  · obtain ⟨a, ns, rfl, hS, hl, q⟩ := h
    have nd := sc_bag.nd
    refine ⟨_, pss_cons (ps_setLc (i := 1) rfl nd rfl rfl (sw_true rfl rfl rfl (by decide +kernel)) (pi_list (pe_slice sl_list (pv 0) po_none (po_some pe_int))) (blkOk_by (own := [("_law_cell", 3)]) (N := N_bag) (sc := defScope s_bag) (by decide +kernel)) (fun _ _ _ _ _ => pg_name (i := 3) nd rfl (.inl rfl)) (fun _ _ _ _ _ => pts_nil)
        (fun _ _ _ _ _ => pe_callTy call_int1 (by rfl) Z.z_int (by decide +kernel) (pa_cons (pv 3) pa_nil)))
      (pss_cons (ps_set (i := 2) nd rfl (.inl rfl) (pe_op op_add pe_int (pe_op op_mul pe_int (pe_callB call_len (by rfl) Z.z_len PySem.boot_len (pa_cons (pv 1) pa_nil)))))
      (pss_cons (ps_for PassesOwn.never rfl (pi_list (pv 1)) (pg_name (i := 3) nd rfl (.inl rfl)) (pss_one (ps_set (i := 2) nd rfl (.inl rfl) (pe_op op_mod (pe_callTy call_int1 (by rfl) Z.z_int (by decide +kernel) (pa_cons (pe_op op_add (pe_op op_mul (pv 2) pe_int) (pv 3)) pa_nil)) pe_int))))
      (pss_one (ps_ret (pe_lst (pa_cons (pv 1) (pa_cons pe_int (pa_cons pe_int (pa_cons (pv 2) (pa_cons pe_int pa_nil)))))))))), ?_⟩
    exact read_bag hS hl rfl rfl (by decide) (by decide) q
theorem ok_take (Z : Fc K mg) (a : Addr) (nm : Addr → Str) (tb : List Addr) : FnOk P w K mg base CX0 1 Z.a_take Z.fd_take P_take (spD ⟨some a, nm, tb⟩ 2 takeT) := by
  refine fn_take Z.F_take sc_take fun X outer cdv A s H E hX hr => ?_
  subst hX
  have nd := sc_take.nd
  refine ⟨_, (ss_cons (s_setIx 0 (x_lend 0 (x_addI (x_ix (xv 0) x_int) x_int)) x_int)
      (ss_cons (s_if (t_w (w_and (t_lend 0 (t_lt (x_ix (xv 0) x_int) x_int)) (w_and1 (t_lend 0 (t_lt (x_ix (xv 0) x_int) (x_len (by rfl) Z.z_len (a_cons (x_ix (xv 0) x_int) a_nil))))))) (ss_cons (s_set (i := 2) nd rfl (.inl rfl) (x_lend 0 (x_ix (x_ix (xv 0) x_int) (x_ix (xv 0) x_int))))
      (ss_cons (s_setIx 0 (x_lend 0 (x_addI (x_ix (xv 0) x_int) x_int)) x_int)
      (ss_cons (s_setIx 0 (x_lend 0 (x_mod (x_intOf (by rfl) Z.z_int (a_cons (x_addI (x_addI (x_mul (x_ix (xv 0) x_int) x_int) (x_mul (x_mod (x_intOf (by rfl) Z.z_int (a_cons (xv 2) a_nil)) x_int) x_int)) (x_ix (xv 0) x_int)) a_nil)) x_int)) x_int)
      (ss_one (s_setIx 0 (x_if (t_ge (xv 2) (x_pow x_int x_int)) (xv 2) x_int) x_int))))) ss_nil)
      (ss_cons (s_if (t_lend 0 (t_gt (x_ix (xv 0) x_int) x_int)) (ss_cons (s_set (i := 3) nd rfl (.inl rfl) (x_lend 0 (x_mod (x_intOf (by rfl) Z.z_int (a_cons (x_ix (xv 0) x_int) a_nil)) (xv 1))))
      (ss_cons (s_setIx 0 (x_lend 0 (x_fdiv (x_ix (xv 0) x_int) (xv 1))) x_int)
      (ss_one (s_ret (xv 3))))) ss_nil)
      (ss_cons (s_set (i := 4) nd rfl (.inl rfl) (x_lend 0 (x_mod (x_intOf (by rfl) Z.z_int (a_cons (x_addI (x_ix (xv 0) x_int) (x_mul (x_ix (xv 0) x_int) x_int)) a_nil)) x_int)))
      (ss_cons (s_setIx 0 (x_mod (x_intOf (by rfl) Z.z_int (a_cons (x_addI (x_addI (x_mul (xv 4) (xv 4)) (x_mul (xv 4) x_int)) x_int) a_nil)) x_int) x_int)
      (ss_one (s_ret (x_lend 0 (x_mod (x_intOf (by rfl) Z.z_int (a_cons (x_addI (x_fdiv (x_ix (xv 0) x_int) x_int) (x_mul (x_mod (x_intOf (by rfl) Z.z_int (a_cons (x_ix (xv 0) x_int) a_nil)) x_int) x_int)) a_nil)) (xv 1)))))))))), ?_⟩
  intro cs i v m z n hcs m0 m1 n0 n1
  have e0 : ∀ x : Int, 0 ≤ x % 2147483563 := fun x => Int.emod_nonneg _ (by decide)
  have e1 : ∀ x : Int, x % 2147483563 < 2147483563 := fun x => Int.emod_lt_of_pos _ (by decide)
  have r0 : ∀ x : Int, 0 ≤ x % n := fun x => Int.emod_nonneg _ (by omega)
  have r1 : ∀ x : Int, x % n < n := fun x => Int.emod_lt_of_pos _ n0
  walk_at "go"
  split <;> walk_at "go"
  · split <;> rename_i hb <;> walk_at "go"
    · have hi : i < cs.length := by
        have h2 := of_decide_eq_true hb
        rw [List.length_map] at h2
        omega
      refine ⟨.int cs[i], ?_, ?_⟩
      · exact atI_nat (by rw [List.getElem?_map, List.getElem?_eq_getElem hi] <;> rfl)
      walk_at "go"
      split <;> walk_at "go"
      · split <;> walk_at "go" <;> (refine' takeEnd (i + 1) ?h ?a ?b ?c ?d; (case h => exact rfl); (case a => exact e0 _); (case b => exact e1 _); (case c => exact r0 _); (case d => exact r1 _))
      · split <;> rename_i hz
        · exact absurd hz (by decide)
        walk_at "go"
        (refine' takeEnd (i + 1) ?h ?a ?b ?c ?d; (case h => exact rfl); (case a => exact e0 _); (case b => exact e1 _); (case c => exact r0 _); (case d => exact r1 _))
    · split <;> walk_at "go" <;> first | (refine' takeEnd i ?h ?a ?b ?c ?d; (case h => exact rfl); (case a => exact m0); (case b => exact m1); (case c => exact r0 _); (case d => exact r1 _)) | (refine' takeEnd i ?h ?a ?b ?c ?d; (case h => exact rfl); (case a => exact e0 _); (case b => exact e1 _); (case c => exact r0 _); (case d => exact r1 _))
  · split <;> walk_at "go" <;> first | (refine' takeEnd i ?h ?a ?b ?c ?d; (case h => exact rfl); (case a => exact m0); (case b => exact m1); (case c => exact r0 _); (case d => exact r1 _)) | (refine' takeEnd i ?h ?a ?b ?c ?d; (case h => exact rfl); (case a => exact e0 _); (case b => exact e1 _); (case c => exact r0 _); (case d => exact r1 _))

theorem ok_of (Z : Fc K mg) (G_take : FnOk P w K mg base CX0 1 Z.a_take Z.fd_take P_take (spD b 2 takeT)) : FnOk P w K mg base CX0 2 Z.a_of Z.fd_of P_of (spD b 2 ofT) := by
  refine fn_D Z.F_of sc_of fun X outer cdv A s H E hX hr => ?_
  subst hX
  have nd := sc_of.nd
  refine ⟨_, (ss_one (s_ret (x_ix (xv 1) (x_call (CX := CX0) (G_take) (hr.mono (by decide)) (by rfl) Z.g_take Z.F_take.kp Z.b_take (a_cons (xv 0) (a_cons (x_len (by rfl) Z.z_len (a_cons (xv 1) a_nil)) a_nil)))))), fun ds R hl hT => ?_⟩
  match ds, hT with
  | [.bag, .lst xs], ⟨h1, h2, h3⟩ =>
    rw [show startD N_of [Dt.bag, Dt.lst xs] = [.val .bag, .val (.lst xs)] from rfl]
    walk_at "go"
    intro r q0 q1
    obtain ⟨d, d1, d2⟩ := atI_mem q0 q1
    exact ⟨d, d2, h3 d d1⟩
  | [.bag, .tup xs], ⟨h1, h2, h3⟩ =>
    rw [show startD N_of [Dt.bag, Dt.tup xs] = [.val .bag, .val (.tup xs)] from rfl]
    walk_at "go"
    intro r q0 q1
    obtain ⟨d, d1, d2⟩ := atI_mem q0 q1
    exact ⟨d, d2, h3 d d1⟩
  | [.bag, .str z], ⟨h1, h2, h3⟩ =>
    rw [show startD N_of [Dt.bag, Dt.str z] = [.val .bag, .val (.str z)] from rfl]
    walk_at "go"
    intro r q0 q1
    have hz : z.length = z.cps.toList.length := rfl
    obtain ⟨c, d1, d2⟩ := atI_mem (xs := z.cps.toList) q0 (by rw [← hz]; exact q1)
    exact ⟨h2, c, d2, h3 c d1⟩

@[reducible] def sp_names : DSp := fun ds P => match ds with
  | [.bag, .int n] => 0 ≤ n ∧ n ≤ 20 ∧ ∀ ys : List Str, ys.length = n.toNat → ys.Nodup → (∀ y, y ∈ ys → plainName y) → P (.lst (ys.map Dt.str))
  | _ => False
theorem ok_names (Z : Fc K mg) (G_of : FnOk P w K mg base CX0 2 Z.a_of Z.fd_of P_of (spD b 2 ofT)) (G_take : FnOk P w K mg base CX0 1 Z.a_take Z.fd_take P_take (spD b 2 takeT)) : FnOk P w K mg base CX0 3 Z.a_names Z.fd_names P_names (spD b 2 sp_names) := by
  refine fn_D Z.F_names sc_names fun X outer cdv A s H E hX hr => ?_
  subst hX
  have nd := sc_names.nd
  refine ⟨_, (ss_cons (s_set (i := 2) nd rfl (.inr rfl) x_str)
      (ss_cons (s_set (i := 3) nd rfl (.inr rfl) (x_join (x_l (l_lc rfl nd (vs := [7]) (i_rng1 (by rfl) Z.z_range (a_cons (x_call (CX := CX0) (G_take) (hr.mono (by decide)) (by rfl) Z.g_take Z.F_take.kp Z.b_take (a_cons (xv 0) (a_cons x_int a_nil))) a_nil)) (blkOk_by (own := [("_law_k", 7)]) (N := N_names) (sc := (defScope s_names)) (by decide +kernel)) (fun _ => (g_name (i := 7) nd rfl (by first | exact .inl rfl | exact .inr rfl))) (fun _ => ts_nil) (fun _ => (x_call (CX := CX0) (G_of) (hr.mono (by decide)) (by rfl) Z.g_of Z.F_of.kp Z.b_of (a_cons (xv 0) (a_cons (xv 2) a_nil)))) (by simp)))))
      (ss_cons (s_asg (x_tup (a_cons (x_call (CX := CX0) (G_take) (hr.mono (by decide)) (by rfl) Z.g_take Z.F_take.kp Z.b_take (a_cons (xv 0) (a_cons (x_addI (x_len (by rfl) Z.z_len (a_cons (xv 3) a_nil)) x_int) a_nil))) (a_cons (x_call (CX := CX0) (G_take) (hr.mono (by decide)) (by rfl) Z.g_take Z.F_take.kp Z.b_take (a_cons (xv 0) (a_cons x_int a_nil))) a_nil))) (g_tup' (m := 2) rfl (gs_cons (g_name (i := 4) nd rfl (by first | exact .inl rfl | exact .inr rfl)) (gs_cons (g_name (i := 5) nd rfl (by first | exact .inl rfl | exact .inr rfl)) gs_nil))))
      (ss_cons (s_set (i := 6) nd rfl (.inr rfl) (x_call (CX := CX0) (G_of) (hr.mono (by decide)) (by rfl) Z.g_of Z.F_of.kp Z.b_of (a_cons (xv 0) (a_cons (x_l (l_lst (a_cons x_int (a_cons x_int (a_cons x_int (a_cons x_int (a_cons x_int (a_cons x_int (a_cons x_int (a_cons x_int (a_cons x_int (a_cons x_int a_nil)))))))))))) a_nil))))
      (ss_one (s_ret (x_l (l_lc rfl nd (vs := [7]) (i_rng1 (by rfl) Z.z_range (a_cons (xv 1) a_nil)) (blkOk_by (own := [("_law_k", 7)]) (N := N_names) (sc := (defScope s_names)) (by decide +kernel)) (fun _ => (g_name (i := 7) nd rfl (by first | exact .inl rfl | exact .inr rfl))) (fun _ => ts_nil) (fun _ => (x_addS (x_addS (x_slS (xv 3) o_none (o_some (xv 4))) (x_ix (xv 2) (x_mod (x_intOf (by rfl) Z.z_int (a_cons (x_addI (xv 5) (x_mul (xv 7) (xv 6))) a_nil)) x_int))) (x_slS (xv 3) (o_some (xv 4)) o_none))) (by simp))))))))), fun ds R hl hT => ?_⟩
  match ds, hT with
  | [.bag, .int n], ⟨h0, h1, hR⟩ =>
    rw [show startD N_names [Dt.bag, Dt.int n] = [.val .bag, .val (.int n), .un, .un, .un, .un, .un, .un] from rfl]
    walk_at "gs"
    intro r r0 r1
    walk_at "gs"
    refine ⟨by rw [rngD_len]; omega, fun i acc => ∃ cs : List Str, acc = cs.map Dt.str ∧ cs.length = i ∧ (cs.map (·.length)).sum = i ∧ ∀ w, w ∈ cs → ∀ c, c ∈ w.cps.toList → c ∈ lts.cps.toList, ⟨[], rfl, rfl, rfl, fun w hw => by cases hw⟩, fun i d acc hi _ hA => ?_, fun acc _ hA => ?_⟩
    · obtain ⟨cs, rfl, hl, hs, hw⟩ := hA
      walk_at "gs"
      intro c hc
      refine ⟨cs ++ [⟨#[c]⟩], by rw [List.map_append] <;> rfl, by rw [List.length_append, hl] <;> rfl, by rw [List.map_append, List.sum_append, hs] <;> rfl, fun w h => ?_⟩
      rcases List.mem_append.mp h with h | h
      · exact hw w h
      · rw [List.mem_singleton.mp h]
        intro c' hc'
        have : c' = c := by simpa using hc'
        rw [this]; exact hc
    obtain ⟨cs, rfl, hl, hs, hw⟩ := hA
    rw [rngD_len] at hl hs
    refine ⟨cs, rfl, ?_, ?_⟩
    · rw [hs, show (("" : Str)).length = 0 from rfl]
      omega
    have hz : (Txt.join "" cs).length ≤ 4 := by
      have := PySem.StrLaws.join_length_le "" cs
      rw [hs, show (("" : Str)).length = 0 from rfl] at this
      unfold Txt.join
      rw [PySem.StrLaws.glued_eq_join]
      omega
    have hzl : ∀ c, c ∈ (Txt.join "" cs).cps.toList → c ∈ lts.cps.toList := by
      intro c hc
      unfold Txt.join at hc
      rw [PySem.StrLaws.glued_eq_join] at hc
      obtain ⟨w, h1, h2⟩ := join_mem hc
      exact hw w h1 c h2
    generalize Txt.join "" cs = z at hz hzl ⊢
    walk_at "gs"
    intro at_ a0 a1
    walk_at "gs"
    intro fi f0 f1
    walk_at "gs"
    intro d hd
    have hd2 : ∃ k : Int, d = .int k ∧ 0 ≤ k ∧ k ≤ 12 ∧ k.toNat ∈ [1, 2, 3, 4, 6, 7, 8, 9, 11, 12] := by
      simp only [List.mem_cons, List.not_mem_nil, or_false] at hd
      rcases hd with h | h | h | h | h | h | h | h | h | h <;> exact ⟨_, h, by omega, by omega, by decide⟩
    obtain ⟨k, rfl, k0, k1, kk⟩ := hd2
    walk_at "gs"
    have hlt : ∀ i : Nat, (fi + (0 + (i : Int)) * k) % 25 < 25 ∧ 0 ≤ (fi + (0 + (i : Int)) * k) % 25 := fun i => ⟨Int.emod_lt_of_pos _ (by decide), Int.emod_nonneg _ (by decide)⟩
    have hll : lts.cps.toList.length = 25 := by decide +kernel
    let ch : Nat → Nat := fun i => lts.cps.toList.getD ((fi + (0 + (i : Int)) * k) % 25).toNat 0
    refine ⟨by rw [rngD_len]; omega, fun i acc => acc = (List.range i).map fun i => Dt.str (cutS z none (some at_) ++ ⟨#[ch i]⟩ ++ cutS z (some at_) none), rfl, fun i d acc hi _ e => ?_, fun acc _ e => ?_⟩
    · obtain ⟨hi2, rfl⟩ := rngD_at hi
      have c1 := L2.cutS_length z none (some at_)
      have c2 := L2.cutS_length z (some at_) none
      walk_at "gs"
      refine ⟨.inr ⟨by omega, by omega⟩, ?_⟩
      walk_at "gs"
      have hch : atI lts.cps.toList ((fi + (0 + (i : Int)) * k) % 25) = some (ch i) := by
        obtain ⟨q1, q2⟩ := hlt i
        obtain ⟨m, hm⟩ := Int.eq_ofNat_of_zero_le q2
        show atI lts.cps.toList ((fi + (0 + (i : Int)) * k) % 25) = some (lts.cps.toList.getD ((fi + (0 + (i : Int)) * k) % 25).toNat 0)
        rw [hm] at q1 ⊢
        rw [Int.toNat_natCast]
        exact atI_nat (by rw [List.getD_eq_getElem?_getD, List.getElem?_eq_getElem (by omega)] <;> rfl)
      refine ⟨ch i, hch, ?_⟩
      walk_at "gs"
      refine ⟨by show _ + 1 ≤ _; omega, ?_⟩
      walk_at "gs"
      refine ⟨by rw [PySem.Str.length_append, show (⟨#[ch i]⟩ : Str).length = 1 from rfl]; omega, ?_⟩
      rw [e, List.range_succ, List.map_append] <;> rfl
    · walk_at "gs"
      have hcm : ∀ i, ch i ∈ lts.cps.toList := fun i => by
        obtain ⟨q1, q2⟩ := hlt i
        show lts.cps.toList.getD ((fi + (0 + (i : Int)) * k) % 25).toNat 0 ∈ _
        rw [List.getD_eq_getElem?_getD, List.getElem?_eq_getElem (by omega)]
        exact List.getElem_mem _
      have fin := hR ((List.range n.toNat).map fun i => cutS z none (some at_) ++ ⟨#[ch i]⟩ ++ cutS z (some at_) none) (by rw [List.length_map, List.length_range]) ?_ fun y hy => ?_
      · rw [List.map_map] at fin
        rw [e, rngD_len]
        exact fin
      · have hk : k.toNat ∈ [1, 2, 3, 4, 6, 7, 8, 9, 11, 12] := kk
        refine List.pairwise_map.mpr (List.Pairwise.imp_of_mem (fun {i j} hi hj hne he => hne ?_) List.nodup_range)
        have hi2 := List.mem_range.mp hi
        have hj2 := List.mem_range.mp hj
        have e2 := congrArg (fun w : Str => w.cps.toList) he
        simp only [str_app] at e2
        have e3 : ch i = ch j := by
          have e4 := List.append_cancel_right e2
          have e5 := List.append_cancel_left e4
          simpa using e5
        obtain ⟨p1, p2⟩ := hlt i
        obtain ⟨q1, q2⟩ := hlt j
        have e6 := lts_inj ⟨((fi + (0 + (i : Int)) * k) % 25).toNat, by omega⟩ ⟨((fi + (0 + (j : Int)) * k) % 25).toNat, by omega⟩ e3
        have e7 : ((fi + (0 + (i : Int)) * k) % 25).toNat = ((fi + (0 + (j : Int)) * k) % 25).toNat := congrArg Fin.val e6
        have e8 : (fi + (0 + (i : Int)) * k) % 25 = (fi + (0 + (j : Int)) * k) % 25 := by omega
        have ek : (k.toNat : Int) = k := Int.toNat_of_nonneg k0
        have e9 : ((i : Int) * (k.toNat : Int)) % 25 = ((j : Int) * (k.toNat : Int)) % 25 := by
          rw [ek]
          rw [Int.zero_add, Int.zero_add] at e8
          generalize (i : Int) * k = x at e8 ⊢
          generalize (j : Int) * k = y at e8 ⊢
          omega
        have e10 : (i * k.toNat) % 25 = (j * k.toNat) % 25 := by exact_mod_cast e9
        have e11 := step25 ⟨k.toNat, by omega⟩ hk ⟨i, by omega⟩ ⟨j, by omega⟩ e10
        exact congrArg Fin.val e11
      · obtain ⟨i, _, rfl⟩ := List.mem_map.mp hy
        have l1 := cut_pre (z := z) a0 (by omega)
        have l2 := cut_suf (z := z) a0 (by omega)
        have n1 : (cutS z none (some at_)).length = (z.cps.toList.take at_.toNat).length := by rw [← l1] <;> rfl
        have n2 : (cutS z (some at_) none).length = (z.cps.toList.drop at_.toNat).length := by rw [← l2] <;> rfl
        have n3 : z.length = z.cps.toList.length := rfl
        rw [List.length_take] at n1
        rw [List.length_drop] at n2
        refine ⟨?_, ?_, fun c hc => ?_⟩
        · rw [PySem.Str.length_append, PySem.Str.length_append, show (⟨#[ch i]⟩ : Str).length = 1 from rfl]; omega
        · rw [PySem.Str.length_append, PySem.Str.length_append, show (⟨#[ch i]⟩ : Str).length = 1 from rfl]; omega
        · rw [str_app, str_app, l1, l2] at hc
          rcases List.mem_append.mp hc with h | h
          · rcases List.mem_append.mp h with h | h
            · exact hzl c (List.mem_of_mem_take h)
            · have : c = ch i := by simpa using h
              rw [this]; exact hcm i
          · exact hzl c (List.mem_of_mem_drop h)

@[reducible] def listK : Dt → Bool
  | .lst _ => true
  | .tup _ => true
  | .ptr _ => true
  | _ => false
@[reducible] def sp_is_list (D : Addr) : DSp := fun ds P => match ds with
  | [x] => (x = .ptr D ∨ known x = true) ∧ P (.bl (listK x))
  | _ => False
theorem ok_is_list (Z : Fc K mg)  : FnOk P w K mg base CX0 1 Z.a_is_list Z.fd_is_list P_is_list (spD b 1 (sp_is_list Z.C_dE)) := by
  refine fn_D Z.F_is_list sc_is_list fun X outer cdv A s H E hX hr => ?_
  subst hX
  have nd := sc_is_list.nd
  refine ⟨_, (ss_one (s_ret (x_isK kit_klist kit_ktuple (by rfl) Z.z_isinstance (by rfl) Z.z_list (by decide +kernel) (by rfl) Z.z_tuple (by decide +kernel) (xv 0)))), fun ds R hl hT => ?_⟩
  match ds, hT with
  | [x], ⟨hk, hR⟩ =>
    rw [show startD N_is_list [x] = [.val x] from rfl]
    cases x with
    | ptr a =>
      obtain rfl : a = Z.C_dE := by
        rcases hk with q | q
        · cases q; rfl
        · cases q
      walk_at "gs"
      exact ⟨Z.kt_dE, hR⟩
    | _ =>
      first
        | exact (hk.elim (fun q => nomatch q) fun q => Bool.false_ne_true q).elim
        | (walk_at "gs"
           exact hR)

@[reducible] def sp_is_name : DSp := fun ds P => match ds with
  | [x] => known x = true ∧ (∀ z, x = .str z → z.length ≤ 1000) ∧ P (.bl (nameD x))
  | _ => False
theorem ok_is_name (Z : Fc K mg)  : FnOk P w K mg base CX0 1 Z.a_is_name Z.fd_is_name P_is_name (spD b 1 sp_is_name) := by
  refine fn_D Z.F_is_name sc_is_name fun X outer cdv A s H E hX hr => ?_
  subst hX
  have nd := sc_is_name.nd
  refine ⟨_, (ss_cons (s_if (t_w (w_or (t_not (t_val (x_isi1 kit_kstr (by rfl) Z.z_isinstance (by rfl) Z.z_str (by decide +kernel) (xv 0)))) (w_or1 (t_not (t_chLeLe x_int (x_len (by rfl) Z.z_len (a_cons (xv 0) a_nil)) (x_gint (by rfl) Z.c_MOST_LETTERS)))))) (ss_one (s_ret x_bl)) ss_nil)
      (ss_one (s_ret (x_and (x_notIn (xv 0) (x_tup (a_cons (x_gstr (by rfl) Z.c_AMOUNT) (a_cons (x_gstr (by rfl) Z.c_ONE) a_nil)))) (x_one (x_all rfl (by rfl) Z.z_all (a_cons (x_l (l_lc rfl nd (vs := [1]) (i_str (xv 0)) (blkOk_by (own := [("letter", 1)]) (N := N_is_name) (sc := (defScope s_is_name)) (by decide +kernel)) (fun _ => (g_name (i := 1) nd rfl (by first | exact .inl rfl | exact .inr rfl))) (fun _ => ts_nil) (fun _ => (x_inS (xv 1) (x_gstr (by rfl) Z.c_LETTERS))) (by simp))) a_nil))))))), fun ds R hl hT => ?_⟩
  match ds, hT with
  | [x], ⟨hk, hz, hR⟩ =>
    rw [show startD N_is_name [x] = [.val x, .un] from rfl]
    cases x <;> first | exact (Bool.false_ne_true hk).elim | (walk_at "go"; exact hR) | skip
    rename_i z
    have hz1 := hz z rfl
    have hR' : R (.bl (nameS z)) := hR
    walk_at "go"
    cases h1 : decide ((1 : Int) ≤ (z.length : Int)) with
    | false =>
      walk_at "go"
      rw [show nameS z = false from by unfold nameS; rw [show decide (1 ≤ z.length) = false from decide_eq_false fun q => of_decide_eq_false h1 (by omega)]; rfl] at hR'
      exact hR'
    | true =>
      have g1 : decide (1 ≤ z.length) = true := decide_eq_true (by have := of_decide_eq_true h1; omega)
      walk_at "go"
      cases h2 : decide ((z.length : Int) ≤ 6) with
      | false =>
        walk_at "go"
        rw [show nameS z = false from by unfold nameS; rw [g1, show decide (z.length ≤ 6) = false from decide_eq_false fun q => of_decide_eq_false h2 (by omega)]; rfl] at hR'
        exact hR'
      | true =>
        have g2 : decide (z.length ≤ 6) = true := decide_eq_true (by have := of_decide_eq_true h2; omega)
        walk_at "go"
        have hin : inD (.str z) [.str "amount", .str "one"] = (decide (z = "amount") || decide (z = "one")) := by
          show (eqV (.str "amount") (.str z) || (eqV (.str "one") (.str z) || false)) = _
          rw [Bool.or_false]
          exact congr (congrArg _ (eqV_str _ _)) (eqV_str _ _)
        rw [hin]
        cases h3 : decide (z = ("amount" : Str)) with
        | true =>
          walk_at "go"
          rw [show nameS z = false from by unfold nameS; rw [g1, g2, h3]; rfl] at hR'
          exact hR'
        | false =>
          cases h4 : decide (z = ("one" : Str)) with
          | true =>
            walk_at "go"
            rw [show nameS z = false from by unfold nameS; rw [g1, g2, h3, h4]; rfl] at hR'
            exact hR'
          | false =>
            rw [show (false || false) = false from rfl]
            walk_at "go"
            have hl : (sgD z).length = z.length := by unfold sgD; rw [List.length_map]; rfl
            refine ⟨by rw [hl]; omega, fun i acc => acc = ((z.cps.toList.take i).map fun c => Dt.bl (decide (c ∈ ("abcdefghijklmnopqrstuvwxyz" : Str).cps.toList))), rfl, fun i d acc hi _ e => ?_, fun acc _ e => ?_⟩
            · obtain ⟨c, hc, rfl⟩ := sgD_at hi
              walk_at "go1"
              refine ⟨c, rfl, ?_⟩
              show acc ++ [_] = _
              rw [e, List.take_add_one, hc, List.map_append] <;> rfl
            · refine ⟨z.cps.toList.map fun c => decide (c ∈ ("abcdefghijklmnopqrstuvwxyz" : Str).cps.toList), ?_, ?_⟩
              · rw [e, hl, show z.length = z.cps.toList.length from rfl, List.take_of_length_le (Nat.le_refl _), List.map_map] <;> rfl
              · rw [show nameS z = _ from by unfold nameS; rw [g1, g2, h3, h4]] at hR'
                rw [List.all_map]
                exact hR'

def sp_check_names (D E : Addr) : DSpX := fun ds Q R => ∃ s0 : Dt, ds = [s0] ∧ known s0 = true ∧ (listK s0 = false → R (E, excF "InvalidName" ["given"] Dt.str [s0])) ∧
  ∀ xs, (s0 = .lst xs ∨ s0 = .tup xs) → (∀ y, y ∈ xs → known y = true ∧ ∀ z, y = .str z → z.length ≤ 1000) ∧ (∀ (i : Nat) (y : Dt), xs[i]? = some y → nameD y = false → (∀ z, z ∈ xs.take i → nameD z = true) → R (E, excF "InvalidName" ["given"] Dt.str [y])) ∧ ((∀ y, y ∈ xs → nameD y = true) → Q .non)
theorem okX_check_names (Z : Fc K mg) (G_InvalidName___init__ : FnOk P w K mg base CX0 1 Z.a_InvalidName___init__ Z.fd_InvalidName___init__ P_InvalidName___init__ (spExc Z.C_InvalidName "InvalidName" ["given"])) (G_is_list : FnOk P w K mg base CX0 1 Z.a_is_list Z.fd_is_list P_is_list (spD b 1 (sp_is_list Z.C_dE))) (G_is_name : FnOk P w K mg base CX0 1 Z.a_is_name Z.fd_is_name P_is_name (spD b 1 sp_is_name)) : FnOk P w K mg base (L2.CX P w) 3 Z.a_check_names Z.fd_check_names P_check_names (spDX b 1 (sp_check_names Z.C_dE Z.C_InvalidName)) := by
  refine fn_DXV (DL.Fun.v Z.F_check_names) sc_check_names fun X outer cdv A s H E hX hr F0 H0 R M => ?_
  subst hX
  have nd := sc_check_names.nd
  refine ⟨_, (ssx_cons (sx_if (t_not (t_val (x_call (CX := CX0) (G_is_list) (hr.mono (by decide)) (by rfl) Z.g_is_list Z.F_is_list.kp Z.b_is_list (a_cons (xv 0) a_nil)))) (ssx_one (sx_raise rfl M Z.ox_InvalidName Z.ic_InvalidName Z.ti_InvalidName (G_InvalidName___init__) (hr.mono (by decide)) Z.b_InvalidName___init__ (by rfl) Z.mg_InvalidName (by decide) (a_cons (xv 0) a_nil))) ssx_nil)
      (ssx_one (sx_for rfl (i_seq 0) (g_name (i := 1) nd rfl (by first | exact .inl rfl | exact .inr rfl)) (ssx_one (sx_if (t_not (t_val (x_call (CX := CX0) (G_is_name) (hr.mono (by decide)) (by rfl) Z.g_is_name Z.F_is_name.kp Z.b_is_name (a_cons (xv 1) a_nil)))) (ssx_one (sx_raise rfl M Z.ox_InvalidName Z.ic_InvalidName Z.ti_InvalidName (G_InvalidName___init__) (hr.mono (by decide)) Z.b_InvalidName___init__ (by rfl) Z.mg_InvalidName (by decide) (a_cons (xv 1) a_nil))) ssx_nil)) M.po))), fun ds Q hl hT => ?_⟩
  obtain ⟨s0, rfl, hk, hE, hX⟩ := hT
  rw [show startD N_check_names [s0] = [.val s0, .un] from rfl]
  walk_at "gs"
  refine ⟨.inr hk, ?_⟩
  cases hl : listK s0 with
  | false =>
    walk_at "gs"
    exact hE hl
  | true =>
    obtain ⟨xs, hs⟩ : ∃ xs, s0 = .lst xs ∨ s0 = .tup xs := by
      cases s0 with
      | lst xs => exact ⟨xs, .inl rfl⟩
      | tup xs => exact ⟨xs, .inr rfl⟩
      | ptr a => cases hk
      | _ => cases hl
    obtain ⟨hok, hB, hQ⟩ := hX xs hs
    rcases hs with rfl | rfl
    · walk_at "gs"
      refine for_of (as := xs) (g := fun x => x) (Iv := fun i γ => (∃ s1 : Sl, γ = [.val (.lst xs), s1]) ∧ ∀ z, z ∈ xs.take i → nameD z = true) (List.map_id' _).symm ?_ (fun i x γ' hx hI => ?_) (fun γ' hI => ?_)
      · exact ⟨⟨_, rfl⟩, fun z hz => absurd hz List.not_mem_nil⟩
      · obtain ⟨⟨s1, rfl⟩, hall⟩ := hI
        have ho := hok x (List.mem_of_getElem? hx)
        walk_at "gs"
        refine ⟨ho.1, ho.2, ?_⟩
        cases hn : nameD x with
        | false =>
          walk_at "gs"
          exact hB i x hx hn hall
        | true =>
          walk_at "gs"
          refine ⟨⟨_, rfl⟩, fun z hz => ?_⟩
          rw [List.take_add_one, hx] at hz
          rcases List.mem_append.mp hz with q | q
          · exact hall z q
          · rw [List.mem_singleton.mp q]; exact hn
      · obtain ⟨⟨s1, rfl⟩, hall⟩ := hI
        walk_at "gs"
        refine hQ fun y hy => hall y ?_
        rw [List.take_length]
        exact hy
    · walk_at "gs"
      refine for_of (as := xs) (g := fun x => x) (Iv := fun i γ => (∃ s1 : Sl, γ = [.val (.tup xs), s1]) ∧ ∀ z, z ∈ xs.take i → nameD z = true) (List.map_id' _).symm ?_ (fun i x γ' hx hI => ?_) (fun γ' hI => ?_)
      · exact ⟨⟨_, rfl⟩, fun z hz => absurd hz List.not_mem_nil⟩
      · obtain ⟨⟨s1, rfl⟩, hall⟩ := hI
        have ho := hok x (List.mem_of_getElem? hx)
        walk_at "gs"
        refine ⟨ho.1, ho.2, ?_⟩
        cases hn : nameD x with
        | false =>
          walk_at "gs"
          exact hB i x hx hn hall
        | true =>
          walk_at "gs"
          refine ⟨⟨_, rfl⟩, fun z hz => ?_⟩
          rw [List.take_add_one, hx] at hz
          rcases List.mem_append.mp hz with q | q
          · exact hall z q
          · rw [List.mem_singleton.mp q]; exact hn
      · obtain ⟨⟨s1, rfl⟩, hall⟩ := hI
        walk_at "gs"
        refine hQ fun y hy => hall y ?_
        rw [List.take_length]
        exact hy

theorem ok_check_names (Z : Fc K mg) (G_InvalidName___init__ : FnOk P w K mg base CX0 1 Z.a_InvalidName___init__ Z.fd_InvalidName___init__ P_InvalidName___init__ (spExc Z.C_InvalidName "InvalidName" ["given"])) (G_is_list : FnOk P w K mg base CX0 1 Z.a_is_list Z.fd_is_list P_is_list (spD b 1 (sp_is_list Z.C_dE))) (G_is_name : FnOk P w K mg base CX0 1 Z.a_is_name Z.fd_is_name P_is_name (spD b 1 sp_is_name)) : FnOk P w K mg base CX0 3 Z.a_check_names Z.fd_check_names P_check_names (spD b 1 (calmT (sp_check_names Z.C_dE Z.C_InvalidName))) := DL.FnOk.calm (okX_check_names Z G_InvalidName___init__ G_is_list G_is_name) fun _ _ h => h
def sp_check_different (E : Addr) : DSpX := fun ds Q R => ∃ (ns : List Str) (s0 : Dt), ds = [s0] ∧ (s0 = .lst (ns.map Dt.str) ∨ s0 = .tup (ns.map Dt.str)) ∧ (∀ (i : Nat) (x : Str), ns[i]? = some x → x ∈ ns.take i → (ns.take i).Nodup → R (E, excF "DuplicateName" ["name"] Dt.str [.str x])) ∧ (ns.Nodup → Q .non)
theorem okX_check_different (Z : Fc K mg) (G_DuplicateName___init__ : FnOk P w K mg base CX0 1 Z.a_DuplicateName___init__ Z.fd_DuplicateName___init__ P_DuplicateName___init__ (spExc Z.C_DuplicateName "DuplicateName" ["name"])) : FnOk P w K mg base (L2.CX P w) 3 Z.a_check_different Z.fd_check_different P_check_different (spDX b 1 (sp_check_different Z.C_DuplicateName)) := by
  refine fn_DXV (DL.Fun.v Z.F_check_different) sc_check_different fun X outer cdv A s H E hX hr F0 H0 R M => ?_
  subst hX
  have nd := sc_check_different.nd
  refine ⟨_, (ssx_one (sx_for rfl (i_enSV 0 (by rfl) Z.z_enumerate) (g_tup' (m := 2) rfl (gs_cons (g_name (i := 1) nd rfl (by first | exact .inl rfl | exact .inr rfl)) (gs_cons (g_name (i := 2) nd rfl (by first | exact .inl rfl | exact .inr rfl)) gs_nil))) (ssx_one (sx_if (t_in (xv 2) (x_slN 0 o_none (o_some (xv 1)))) (ssx_one (sx_raise rfl M Z.ox_DuplicateName Z.ic_DuplicateName Z.ti_DuplicateName (G_DuplicateName___init__) (hr.mono (by decide)) Z.b_DuplicateName___init__ (by rfl) Z.mg_DuplicateName (by decide) (a_cons (xv 2) a_nil))) ssx_nil)) M.po)), fun ds Q hl hT => ?_⟩
  obtain ⟨ns, s0, rfl, hs, hE, hQ⟩ := hT
  rcases hs with rfl | rfl
  · rw [show startD N_check_different [.lst (ns.map Dt.str)] = [.val (.lst (ns.map Dt.str)), .un, .un] from rfl]
    walk_at "gs"
    refine for_of (as := ns.zipIdx) (g := fun p => .tup [.int (p.2 : Nat), .str p.1]) (Iv := fun i γ => (∃ s1 s2 : Sl, γ = [.val (.lst (ns.map Dt.str)), s1, s2]) ∧ (ns.take i).Nodup) enumD_map ?_ (fun i p γ' hp hI => ?_) (fun γ' hI => ?_)
    · exact ⟨⟨_, _, rfl⟩, List.nodup_nil⟩
    · obtain ⟨⟨s1, s2, rfl⟩, hall⟩ := hI
      obtain ⟨x, k⟩ := p
      obtain ⟨rfl, hx⟩ := zipIdx_at hp
      walk_at "gs"
      have hc : DL.cutD (ns.map Dt.str) none (some ((k : Nat) : Int)) = (ns.take k).map Dt.str := by rw [cutD_pre (by omega), List.map_take]; simp
      rw [hc]
      refine ⟨flat_strs _, ?_⟩
      rw [inD_strs]
      cases hm : decide (x ∈ ns.take k) with
      | true =>
        walk_at "gs"
        exact hE k x hx (of_decide_eq_true hm) hall
      | false =>
        walk_at "gs"
        refine ⟨⟨_, _, rfl⟩, ?_⟩
        rw [List.take_add_one, hx]
        refine List.nodup_append.mpr ⟨hall, List.nodup_cons.mpr ⟨List.not_mem_nil, List.nodup_nil⟩, fun a ha c hc e => ?_⟩
        rw [List.mem_singleton.mp hc] at e
        exact of_decide_eq_false hm (e ▸ ha)
    · obtain ⟨⟨s1, s2, rfl⟩, hall⟩ := hI
      walk_at "gs"
      refine hQ ?_
      rw [List.length_zipIdx, List.take_length] at hall
      exact hall
  · rw [show startD N_check_different [.tup (ns.map Dt.str)] = [.val (.tup (ns.map Dt.str)), .un, .un] from rfl]
    walk_at "gs"
    refine for_of (as := ns.zipIdx) (g := fun p => .tup [.int (p.2 : Nat), .str p.1]) (Iv := fun i γ => (∃ s1 s2 : Sl, γ = [.val (.tup (ns.map Dt.str)), s1, s2]) ∧ (ns.take i).Nodup) enumD_map ?_ (fun i p γ' hp hI => ?_) (fun γ' hI => ?_)
    · exact ⟨⟨_, _, rfl⟩, List.nodup_nil⟩
    · obtain ⟨⟨s1, s2, rfl⟩, hall⟩ := hI
      obtain ⟨x, k⟩ := p
      obtain ⟨rfl, hx⟩ := zipIdx_at hp
      walk_at "gs"
      have hc : DL.cutD (ns.map Dt.str) none (some ((k : Nat) : Int)) = (ns.take k).map Dt.str := by rw [cutD_pre (by omega), List.map_take]; simp
      rw [hc]
      refine ⟨flat_strs _, ?_⟩
      rw [inD_strs]
      cases hm : decide (x ∈ ns.take k) with
      | true =>
        walk_at "gs"
        exact hE k x hx (of_decide_eq_true hm) hall
      | false =>
        walk_at "gs"
        refine ⟨⟨_, _, rfl⟩, ?_⟩
        rw [List.take_add_one, hx]
        refine List.nodup_append.mpr ⟨hall, List.nodup_cons.mpr ⟨List.not_mem_nil, List.nodup_nil⟩, fun a ha c hc e => ?_⟩
        rw [List.mem_singleton.mp hc] at e
        exact of_decide_eq_false hm (e ▸ ha)
    · obtain ⟨⟨s1, s2, rfl⟩, hall⟩ := hI
      walk_at "gs"
      refine hQ ?_
      rw [List.length_zipIdx, List.take_length] at hall
      exact hall

theorem ok_check_different (Z : Fc K mg) (G_DuplicateName___init__ : FnOk P w K mg base CX0 1 Z.a_DuplicateName___init__ Z.fd_DuplicateName___init__ P_DuplicateName___init__ (spExc Z.C_DuplicateName "DuplicateName" ["name"])) : FnOk P w K mg base CX0 3 Z.a_check_different Z.fd_check_different P_check_different (spD b 1 (calmT (sp_check_different Z.C_DuplicateName))) := DL.FnOk.calm (okX_check_different Z G_DuplicateName___init__) fun _ _ h => h
def sp_check_count (E : Addr) : DSpX := fun ds Q R => ∃ (xs : List Dt) (s0 : Dt) (lo hi : Int), ds = [s0, .int lo, .int hi] ∧ (s0 = .lst xs ∨ s0 = .tup xs) ∧ (¬ (lo ≤ (xs.length : Int) ∧ (xs.length : Int) ≤ hi) → R (E, excF "InvalidCount" ["given"] Dt.str [.int (xs.length : Nat)])) ∧ (lo ≤ (xs.length : Int) → (xs.length : Int) ≤ hi → Q .non)
theorem okX_check_count (Z : Fc K mg) (G_InvalidCount___init__ : FnOk P w K mg base CX0 1 Z.a_InvalidCount___init__ Z.fd_InvalidCount___init__ P_InvalidCount___init__ (spExc Z.C_InvalidCount "InvalidCount" ["given"])) : FnOk P w K mg base (L2.CX P w) 3 Z.a_check_count Z.fd_check_count P_check_count (spDX b 3 (sp_check_count Z.C_InvalidCount)) := by
  refine fn_DXV (DL.Fun.v Z.F_check_count) sc_check_count fun X outer cdv A s H E hX hr F0 H0 R M => ?_
  subst hX
  have nd := sc_check_count.nd
  refine ⟨_, (ssx_one (sx_if (t_not (t_chLeLe (xv 1) (x_len (by rfl) Z.z_len (a_cons (xv 0) a_nil)) (xv 2))) (ssx_one (sx_raise rfl M Z.ox_InvalidCount Z.ic_InvalidCount Z.ti_InvalidCount (G_InvalidCount___init__) (hr.mono (by decide)) Z.b_InvalidCount___init__ (by rfl) Z.mg_InvalidCount (by decide) (a_cons (x_len (by rfl) Z.z_len (a_cons (xv 0) a_nil)) a_nil))) ssx_nil)), fun ds Q hl hT => ?_⟩
  obtain ⟨xs, s0, lo, hi, rfl, hs, hE, hQ⟩ := hT
  rcases hs with rfl | rfl
  · rw [show startD N_check_count [.lst xs, .int lo, .int hi] = [.val (.lst xs), .val (.int lo), .val (.int hi)] from rfl]
    walk_at "go"
    cases h1 : decide (lo ≤ (xs.length : Int)) with
    | false =>
      walk_at "go"
      exact hE fun q => of_decide_eq_false h1 q.1
    | true =>
      walk_at "go"
      cases h2 : decide ((xs.length : Int) ≤ hi) with
      | false =>
        walk_at "go"
        exact hE fun q => of_decide_eq_false h2 q.2
      | true =>
        walk_at "go"
        exact hQ (of_decide_eq_true h1) (of_decide_eq_true h2)
  · rw [show startD N_check_count [.tup xs, .int lo, .int hi] = [.val (.tup xs), .val (.int lo), .val (.int hi)] from rfl]
    walk_at "go"
    cases h1 : decide (lo ≤ (xs.length : Int)) with
    | false =>
      walk_at "go"
      exact hE fun q => of_decide_eq_false h1 q.1
    | true =>
      walk_at "go"
      cases h2 : decide ((xs.length : Int) ≤ hi) with
      | false =>
        walk_at "go"
        exact hE fun q => of_decide_eq_false h2 q.2
      | true =>
        walk_at "go"
        exact hQ (of_decide_eq_true h1) (of_decide_eq_true h2)

theorem ok_check_count (Z : Fc K mg) (G_InvalidCount___init__ : FnOk P w K mg base CX0 1 Z.a_InvalidCount___init__ Z.fd_InvalidCount___init__ P_InvalidCount___init__ (spExc Z.C_InvalidCount "InvalidCount" ["given"])) : FnOk P w K mg base CX0 3 Z.a_check_count Z.fd_check_count P_check_count (spD b 3 (calmT (sp_check_count Z.C_InvalidCount))) := DL.FnOk.calm (okX_check_count Z G_InvalidCount___init__) fun _ _ h => h
def sp_are_pairs : DSp := fun ds P => ∃ (ps : List (Str × Dt)) (ns : List Str), ds = [.tup (ps.map prD), .lst (ns.map Dt.str)] ∧ ps.length ≤ 1000 ∧ ns.length ≤ 1000 ∧ (∀ p, p ∈ ps → known p.2 = true) ∧ (ps.map (·.1)).Nodup ∧ (∀ p, p ∈ ps → p.1 ∈ ns) ∧ P (.bl true)
theorem ok_are_pairs (Z : Fc K mg)  : FnOk P w K mg base CX0 1 Z.a_are_pairs Z.fd_are_pairs P_are_pairs (spD b 2 sp_are_pairs) := by
  refine fn_D Z.F_are_pairs sc_are_pairs fun X outer cdv A s H E hX hr => ?_
  subst hX
  have nd := sc_are_pairs.nd
  refine ⟨_, (ss_cons (s_if (t_not (t_val (x_isi1 kit_ktuple (by rfl) Z.z_isinstance (by rfl) Z.z_tuple (by decide +kernel) (xv 0)))) (ss_one (s_ret x_bl)) ss_nil)
      (ss_cons (s_setL (i := 2) nd rfl (.inl rfl) (l_lst a_nil))
      (ss_cons (s_for rfl (i_tup (xv 0)) (g_name (i := 3) nd rfl (by first | exact .inl rfl | exact .inr rfl)) (ss_cons (s_if (t_w (w_or (t_not (t_val (x_isi1 kit_ktuple (by rfl) Z.z_isinstance (by rfl) Z.z_tuple (by decide +kernel) (xv 3)))) (w_or1 (t_ne hr.units (x_len (by rfl) Z.z_len (a_cons (xv 3) a_nil)) x_int)))) (ss_one (s_ret x_bl)) ss_nil)
      (ss_cons (s_if (t_w (w_or (t_notIn (x_ix (xv 3) x_int) (xv 1)) (w_or1 (t_lend 2 (t_in (x_ix (xv 3) x_int) (xv 2)))))) (ss_one (s_ret x_bl)) ss_nil)
      (ss_one (s_app 2 (x_ix (xv 3) x_int))))))
      (ss_one (s_ret x_bl))))), fun ds R hl hT => ?_⟩
  obtain ⟨ps, ns, rfl, hps, hns, hl, hnd, hin, hR⟩ := hT
  rw [show startD N_are_pairs [Dt.tup (ps.map prD), Dt.lst (ns.map Dt.str)] = [.val (.tup (ps.map prD)), .val (.lst (ns.map Dt.str)), .un, .un] from rfl]
  walk_at "go"
  intro l
  walk_at "go"
  refine for_of (as := ps) (g := prD) (Iv := fun i γ => ∃ s3 : Sl, γ = [.val (.tup (ps.map prD)), .val (.lst (ns.map Dt.str)), .own l ((ps.take i).map fun p => .str p.1), s3]) rfl ?_ (fun i p γ' hx hI => ?_) (fun γ' hI => ?_)
  · exact ⟨_, rfl⟩
  · obtain ⟨s3, rfl⟩ := hI
    have hm := List.mem_of_getElem? hx
    have hpl := (List.getElem?_eq_some_iff.mp hx).1
    walk_at "go"
    have e0 : atI [Dt.str p.1, p.2] 0 = some (.str p.1) := atI_nat (j := 0) rfl
    refine ⟨_, e0, rfl, flat_strs _, ?_⟩
    rw [inD_strs, decT (hin p hm)]
    walk_at "go"
    have hnot : p.1 ∉ (ps.take i).map (·.1) := by
      have h1 : (ps.map (·.1))[i]? = some p.1 := by rw [List.getElem?_map, hx] <;> rfl
      have := not_in_take hnd h1
      rwa [← List.map_take] at this
    have e1 : ((ps.take i).map fun p => Dt.str p.1) = ((ps.take i).map (·.1)).map Dt.str := by rw [List.map_map] <;> rfl
    refine ⟨by rw [e1]; exact flat_strs _, ?_⟩
    rw [e1, inD_strs, decF hnot]
    walk_at "go"
    have e2 : ((ps.take (i + 1)).map fun p => Dt.str p.1) = ((ps.take i).map (·.1)).map Dt.str ++ [Dt.str p.1] := by rw [List.take_add_one, hx, List.map_append, e1] <;> rfl
    rw [e2]
    exact ⟨by rw [List.length_map, List.length_map, List.length_take]; omega, _, rfl⟩
  · obtain ⟨s3, rfl⟩ := hI
    walk_at "go"
    exact hR

@[reducible] def sp_is_whole : DSp := fun ds P => match ds with
  | [x] => known x = true ∧ P (.bl (wholeD x))
  | _ => False
theorem ok_is_whole (Z : Fc K mg)  : FnOk P w K mg base CX0 1 Z.a_is_whole Z.fd_is_whole P_is_whole (spD b 1 sp_is_whole) := by
  refine fn_D Z.F_is_whole sc_is_whole fun X outer cdv A s H E hX hr => ?_
  subst hX
  have nd := sc_is_whole.nd
  refine ⟨_, (ss_one (s_ret (x_and (x_isi1 kit_kint (by rfl) Z.z_isinstance (by rfl) Z.z_int (by decide +kernel) (xv 0)) (x_one (x_not (x_isi1 kit_kbool (by rfl) Z.z_isinstance (by rfl) Z.z_bool (by decide +kernel) (xv 0))))))), fun ds R hl hT => ?_⟩
  match ds, hT with
  | [x], ⟨hk, hR⟩ =>
    rw [show startD N_is_whole [x] = [.val x] from rfl]
    cases x <;> first | exact (Bool.false_ne_true hk).elim | (walk_at "go"; exact hR)

@[reducible] def sp_is_integer : DSp := fun ds P => match ds with
  | [x, .int lo, .int hi] => known x = true ∧ P (.bl (integerD lo hi x))
  | _ => False
theorem ok_is_integer (Z : Fc K mg) (G_is_whole : FnOk P w K mg base CX0 1 Z.a_is_whole Z.fd_is_whole P_is_whole (spD b 1 sp_is_whole)) : FnOk P w K mg base CX0 2 Z.a_is_integer Z.fd_is_integer P_is_integer (spD b 3 sp_is_integer) := by
  refine fn_D Z.F_is_integer sc_is_integer fun X outer cdv A s H E hX hr => ?_
  subst hX
  have nd := sc_is_integer.nd
  refine ⟨_, (ss_one (s_ret (x_and (x_call (CX := CX0) (G_is_whole) (hr.mono (by decide)) (by rfl) Z.g_is_whole Z.F_is_whole.kp Z.b_is_whole (a_cons (xv 0) a_nil)) (x_one (x_chLeLe (xv 1) (xv 0) (xv 2)))))), fun ds R hl hT => ?_⟩
  match ds, hT with
  | [x, .int lo, .int hi], ⟨hk, hR⟩ =>
    rw [show startD N_is_integer [x, .int lo, .int hi] = [.val x, .val (.int lo), .val (.int hi)] from rfl]
    cases x <;> first | exact (Bool.false_ne_true hk).elim | (walk_at "go"; exact hR) | skip
    rename_i i
    walk_at "go"
    have hR' : R (.bl (decide (lo ≤ i) && decide (i ≤ hi))) := hR
    cases h1 : decide (lo ≤ i) with
    | true => rw [h1] at hR'; exact hR'
    | false => rw [h1] at hR'; exact hR'

def sp_are_terms : DSp := fun ds P => ∃ (ts : List (Str × Int)) (ns : List Str), ds = [termsD ts, .lst (ns.map Dt.str)] ∧ ts.length ≤ 1000 ∧ ns.length ≤ 1000 ∧ (ts.map (·.1)).Nodup ∧ (∀ t, t ∈ ts → t.1 ∈ ns ∧ -1000 ≤ t.2 ∧ t.2 ≤ 1000) ∧ P (.bl true)
theorem ok_are_terms (Z : Fc K mg) (G_are_pairs : FnOk P w K mg base CX0 1 Z.a_are_pairs Z.fd_are_pairs P_are_pairs (spD b 2 sp_are_pairs)) (G_is_integer : FnOk P w K mg base CX0 2 Z.a_is_integer Z.fd_is_integer P_is_integer (spD b 3 sp_is_integer)) : FnOk P w K mg base CX0 3 Z.a_are_terms Z.fd_are_terms P_are_terms (spD b 2 sp_are_terms) := by
  refine fn_D Z.F_are_terms sc_are_terms fun X outer cdv A s H E hX hr => ?_
  subst hX
  have nd := sc_are_terms.nd
  refine ⟨_, (ss_one (s_ret (x_and (x_call (CX := CX0) (G_are_pairs) (hr.mono (by decide)) (by rfl) Z.g_are_pairs Z.F_are_pairs.kp Z.b_are_pairs (a_cons (xv 0) (a_cons (xv 1) a_nil))) (x_one (x_all rfl (by rfl) Z.z_all (a_cons (x_l (l_lc rfl nd (vs := [2]) (i_tup (xv 0)) (blkOk_by (own := [("term", 2)]) (N := N_are_terms) (sc := (defScope s_are_terms)) (by decide +kernel)) (fun _ => (g_name (i := 2) nd rfl (by first | exact .inl rfl | exact .inr rfl))) (fun _ => ts_nil) (fun _ => (x_call (CX := CX0) (G_is_integer) (hr.mono (by decide)) (by rfl) Z.g_is_integer Z.F_is_integer.kp Z.b_is_integer (a_cons (x_ix (xv 2) x_int) (a_cons (x_neg (x_gint (by rfl) Z.c_MOST_FACTOR)) (a_cons (x_gint (by rfl) Z.c_MOST_FACTOR) a_nil))))) (by simp))) a_nil)))))), fun ds R hl hT => ?_⟩
  obtain ⟨ts, ns, rfl, h1, h2, hnd, hin, hR⟩ := hT
  rw [show startD N_are_terms [termsD ts, Dt.lst (ns.map Dt.str)] = [.val (termsD ts), .val (.lst (ns.map Dt.str)), .un] from rfl]
  walk_at "go"
  refine ⟨ts.map fun t => (t.1, Dt.int t.2), ns, by rw [List.map_map] <;> rfl, by rw [List.length_map]; exact h1, h2, fun p hp => ?_, by rw [List.map_map]; exact hnd, fun p hp => ?_, ?_⟩
  · obtain ⟨t, _, rfl⟩ := List.mem_map.mp hp
    rfl
  · obtain ⟨t, ht, rfl⟩ := List.mem_map.mp hp
    exact (hin t ht).1
  walk_at "go"
  refine ⟨by rw [List.length_map]; omega, ?_⟩
  refine wd_map (as := ts) (g := fun t => Dt.tup [.str t.1, .int t.2]) (f := fun _ => .bl ((fun _ => true) ())) rfl (fun i t ht Q hQ => ?_) ?_
  · obtain ⟨_, b1, b2⟩ := hin t (List.mem_of_getElem? ht)
    walk_at "go"
    rw [show integerD (-1000) 1000 (Dt.int t.2) = true from by show (decide _ && decide _) = true; rw [decT b1, decT b2] <;> rfl]
    exact hQ
  refine all_of (p := fun _ => true) ?_
  walk_at "go"
  rw [List.all_eq_true.mpr fun _ _ => rfl]
  exact hR

def sp_is_rule : DSp := fun ds P => ∃ (r : Rul) (ms rg sg : List Str), ds = [ruleD r, .lst (ms.map Dt.str), .lst (rg.map Dt.str), .lst (sg.map Dt.str)] ∧ r.1 ∈ ms ∧ r.2.1 ∈ sg ∧ r.2.2.1 ∈ ms ∧ GoodC rg r.2.2.2 ∧ rg.length ≤ 10 ∧ P (.bl true)
theorem ok_is_rule (Z : Fc K mg) (G_are_pairs : FnOk P w K mg base CX0 1 Z.a_are_pairs Z.fd_are_pairs P_are_pairs (spD b 2 sp_are_pairs)) (G_are_terms : FnOk P w K mg base CX0 3 Z.a_are_terms Z.fd_are_terms P_are_terms (spD b 2 sp_are_terms)) : FnOk P w K mg base CX0 4 Z.a_is_rule Z.fd_is_rule P_is_rule (spD b 4 sp_is_rule) := by
  refine fn_D Z.F_is_rule sc_is_rule fun X outer cdv A s H E hX hr => ?_
  subst hX
  have nd := sc_is_rule.nd
  refine ⟨_, (ss_cons (s_if (t_w (w_or (t_not (t_val (x_isi1 kit_ktuple (by rfl) Z.z_isinstance (by rfl) Z.z_tuple (by decide +kernel) (xv 0)))) (w_or1 (t_ne hr.units (x_len (by rfl) Z.z_len (a_cons (xv 0) a_nil)) x_int)))) (ss_one (s_ret x_bl)) ss_nil)
      (ss_cons (s_asg (xv 0) (g_tup' (m := 4) rfl (gs_cons (g_name (i := 4) nd rfl (by first | exact .inl rfl | exact .inr rfl)) (gs_cons (g_name (i := 5) nd rfl (by first | exact .inl rfl | exact .inr rfl)) (gs_cons (g_name (i := 6) nd rfl (by first | exact .inl rfl | exact .inr rfl)) (gs_cons (g_name (i := 7) nd rfl (by first | exact .inl rfl | exact .inr rfl)) gs_nil))))))
      (ss_cons (s_if (t_w (w_or (t_notIn (xv 4) (xv 1)) (w_or (t_notIn (xv 5) (xv 3)) (w_or1 (t_notIn (xv 6) (xv 1)))))) (ss_one (s_ret x_bl)) ss_nil)
      (ss_cons (s_set (i := 8) nd rfl (.inr rfl) (x_l (l_lst (a_star (xv 2) (a_cons (x_gstr (by rfl) Z.c_AMOUNT) (a_cons (x_gstr (by rfl) Z.c_ONE) a_nil))))))
      (ss_one (s_ret (x_and (x_call (CX := CX0) (G_are_pairs) (hr.mono (by decide)) (by rfl) Z.g_are_pairs Z.F_are_pairs.kp Z.b_are_pairs (a_cons (xv 7) (a_cons (xv 2) a_nil))) (x_one (x_all rfl (by rfl) Z.z_all (a_cons (x_l (l_lc rfl nd (vs := [9]) (i_tup (xv 7)) (blkOk_by (own := [("change", 9)]) (N := N_is_rule) (sc := (defScope s_is_rule)) (by decide +kernel)) (fun _ => (g_name (i := 9) nd rfl (by first | exact .inl rfl | exact .inr rfl))) (fun _ => ts_nil) (fun _ => (x_call (CX := CX0) (G_are_terms) (hr.mono (by decide)) (by rfl) Z.g_are_terms Z.F_are_terms.kp Z.b_are_terms (a_cons (x_ix (xv 9) x_int) (a_cons (xv 8) a_nil)))) (by simp))) a_nil)))))))))), fun ds R hl hT => ?_⟩
  obtain ⟨r, ms, rg, sg, rfl, hm, hs, hn, hg, hl, hR⟩ := hT
  rw [show startD N_is_rule [ruleD r, .lst (ms.map Dt.str), .lst (rg.map Dt.str), .lst (sg.map Dt.str)] = [.val (ruleD r), .val (.lst (ms.map Dt.str)), .val (.lst (rg.map Dt.str)), .val (.lst (sg.map Dt.str)), .un, .un, .un, .un, .un, .un] from rfl]
  walk_at "go"
  refine ⟨rfl, ?_⟩
  walk_at "go"
  refine ⟨flat_strs _, ?_⟩
  rw [inD_strs, decT hm]
  walk_at "go"
  refine ⟨flat_strs _, ?_⟩
  rw [inD_strs, decT hs]
  walk_at "go"
  refine ⟨flat_strs _, ?_⟩
  rw [inD_strs, decT hn]
  walk_at "go"
  have hcl := hg.len
  refine ⟨by rw [List.length_append, List.length_map]; show _ + 2 ≤ _; omega, ?_⟩
  walk_at "go"
  refine ⟨r.2.2.2.map fun c => (c.1, termsD c.2), rg, by rw [List.map_map] <;> rfl, by rw [List.length_map]; omega, by omega, fun p hp => ?_, by rw [List.map_map]; exact hg.1, fun p hp => ?_, ?_⟩
  · obtain ⟨t, _, rfl⟩ := List.mem_map.mp hp
    rfl
  · obtain ⟨t, ht, rfl⟩ := List.mem_map.mp hp
    exact (hg.2 t ht).1
  walk_at "go"
  refine ⟨by rw [List.length_map]; omega, ?_⟩
  refine wd_map (as := r.2.2.2) (g := fun c => Dt.tup [.str c.1, termsD c.2]) (f := fun _ => .bl ((fun _ => true) ())) rfl (fun i c hc Q hQ => ?_) ?_
  · obtain ⟨_, c1, c2⟩ := hg.2 c (List.mem_of_getElem? hc)
    have src : ∀ P : Dt → Prop, P (.bl true) → sp_are_terms [termsD c.2, .lst (rg.map Dt.str ++ [Dt.str "amount", Dt.str "one"])] P := fun P hP => by
      have e : rg.map Dt.str ++ [Dt.str "amount", Dt.str "one"] = (rg ++ [("amount" : Str), ("one" : Str)]).map Dt.str := by rw [List.map_append] <;> rfl
      rw [e]
      have hsl : (rg ++ [("amount" : Str), ("one" : Str)]).length ≤ 12 := by rw [List.length_append]; show _ + 2 ≤ _; omega
      refine ⟨c.2, rg ++ [("amount" : Str), ("one" : Str)], rfl, ?_, by omega, c1, fun t ht => ⟨?_, (c2 t ht).2⟩, hP⟩
      · have := len_of_sub c1 (l := rg ++ [("amount" : Str), ("one" : Str)]) fun x hx => by
          obtain ⟨t, ht, rfl⟩ := List.mem_map.mp hx
          rcases (c2 t ht).1 with q | q | q
          · exact List.mem_append_left _ q
          · rw [q]; simp
          · rw [q]; simp
        rw [List.length_map] at this
        omega
      · rcases (c2 t ht).1 with q | q | q
        · exact List.mem_append_left _ q
        · rw [q]; simp
        · rw [q]; simp
    walk_at "go"
    first
    | exact src _ hQ
    | (refine ⟨_, atI_nat (j := 1) rfl, ?_⟩
       walk_at "go"
       exact src _ hQ)
    | (refine ⟨_, atI_nat (j := 1) rfl, ?_⟩
       exact src _ hQ)
  refine all_of (p := fun _ => true) ?_
  walk_at "go"
  rw [List.all_eq_true.mpr fun _ _ => rfl]
  exact hR

def sp_check_rules (D E1 E2 : Addr) : DSpX := fun ds Q R => ∃ (s1 s2 s3 : Dt), ds = [.ptr D, s1, s2, s3] ∧ Q .non
theorem okX_check_rules (Z : Fc K mg) (G_DuplicateRule___init__ : FnOk P w K mg base CX0 1 Z.a_DuplicateRule___init__ Z.fd_DuplicateRule___init__ P_DuplicateRule___init__ (spExc Z.C_DuplicateRule "DuplicateRule" ["index"])) (G_InvalidRule___init__ : FnOk P w K mg base CX0 1 Z.a_InvalidRule___init__ Z.fd_InvalidRule___init__ P_InvalidRule___init__ (spExc Z.C_InvalidRule "InvalidRule" ["index"])) (G_is_list : FnOk P w K mg base CX0 1 Z.a_is_list Z.fd_is_list P_is_list (spD b 1 (sp_is_list Z.C_dE))) (G_is_rule : FnOk P w K mg base CX0 4 Z.a_is_rule Z.fd_is_rule P_is_rule (spD b 4 sp_is_rule)) : FnOk P w K mg base (L2.CX P w) 5 Z.a_check_rules Z.fd_check_rules P_check_rules (spDX b 4 (sp_check_rules Z.C_dE Z.C_InvalidRule Z.C_DuplicateRule)) := by
  refine fn_DXV (DL.Fun.v Z.F_check_rules) sc_check_rules fun X outer cdv A s H E hX hr F0 H0 R M => ?_
  subst hX
  have nd := sc_check_rules.nd
  refine ⟨_, (ssx_cons (sx_if (t_not (t_val (x_call (CX := CX0) (G_is_list) (hr.mono (by decide)) (by rfl) Z.g_is_list Z.F_is_list.kp Z.b_is_list (a_cons (xv 0) a_nil)))) (ssx_one (sx_raise rfl M Z.ox_InvalidRule Z.ic_InvalidRule Z.ti_InvalidRule (G_InvalidRule___init__) (hr.mono (by decide)) Z.b_InvalidRule___init__ (by rfl) Z.mg_InvalidRule (by decide) (a_cons x_int a_nil))) ssx_nil)
      (ssx_cons (sx_for rfl (i_enSVK 0 (by rfl) Z.z_enumerate) (g_tup' (m := 2) rfl (gs_cons (g_name (i := 4) nd rfl (by first | exact .inl rfl | exact .inr rfl)) (gs_cons (g_name (i := 5) nd rfl (by first | exact .inl rfl | exact .inr rfl)) gs_nil))) (ssx_one (sx_if (t_not (t_val (x_call (CX := CX0) (G_is_rule) (hr.mono (by decide)) (by rfl) Z.g_is_rule Z.F_is_rule.kp Z.b_is_rule (a_cons (xv 5) (a_cons (xv 1) (a_cons (xv 2) (a_cons (xv 3) a_nil))))))) (ssx_one (sx_raise rfl M Z.ox_InvalidRule Z.ic_InvalidRule Z.ti_InvalidRule (G_InvalidRule___init__) (hr.mono (by decide)) Z.b_InvalidRule___init__ (by rfl) Z.mg_InvalidRule (by decide) (a_cons (xv 4) a_nil))) ssx_nil)) M.po)
      (ssx_cons (s_setL (i := 6) nd rfl (.inl rfl) (l_lst a_nil)).x
      (ssx_one (sx_for rfl (i_enSVK 0 (by rfl) Z.z_enumerate) (g_tup' (m := 2) rfl (gs_cons (g_name (i := 4) nd rfl (by first | exact .inl rfl | exact .inr rfl)) (gs_cons (g_name (i := 5) nd rfl (by first | exact .inl rfl | exact .inr rfl)) gs_nil))) (ssx_cons (sx_if (t_lend 6 (t_inD (units65 hr) (x_slT (xv 5) o_none (o_some x_int)) (xv 6))) (ssx_one (sx_raise rfl M Z.ox_DuplicateRule Z.ic_DuplicateRule Z.ti_DuplicateRule (G_DuplicateRule___init__) (hr.mono (by decide)) Z.b_DuplicateRule___init__ (by rfl) Z.mg_DuplicateRule (by decide) (a_cons (xv 4) a_nil))) ssx_nil)
      (ssx_one (s_app 6 (x_slT (xv 5) o_none (o_some x_int))).x)) M.po))))), fun ds Q hl hT => ?_⟩
  obtain ⟨s1, s2, s3, rfl, hQ⟩ := hT
  rw [show startD N_check_rules [.ptr Z.C_dE, s1, s2, s3] = [.val (.ptr Z.C_dE), .val s1, .val s2, .val s3, .un, .un, .un] from rfl]
  walk_at "gs"
  refine ⟨Z.kt_dE, fun _ γ => γ = [.val (.ptr Z.C_dE), .val s1, .val s2, .val s3, .un, .un, .un], rfl, fun i d γ' hi => absurd hi (by simp), fun γ' e => ?_⟩
  subst e
  walk_at "gs"
  intro l
  walk_at "gs"
  refine ⟨Z.kt_dE, fun _ γ => ∃ l, γ = [.val (.ptr Z.C_dE), .val s1, .val s2, .val s3, .un, .un, .own l []], ⟨_, rfl⟩, fun i d γ' hi => absurd hi (by simp), fun γ' e => ?_⟩
  obtain ⟨l, rfl⟩ := e
  walk_at "gs"
  exact hQ

theorem ok_check_rules (Z : Fc K mg) (G_DuplicateRule___init__ : FnOk P w K mg base CX0 1 Z.a_DuplicateRule___init__ Z.fd_DuplicateRule___init__ P_DuplicateRule___init__ (spExc Z.C_DuplicateRule "DuplicateRule" ["index"])) (G_InvalidRule___init__ : FnOk P w K mg base CX0 1 Z.a_InvalidRule___init__ Z.fd_InvalidRule___init__ P_InvalidRule___init__ (spExc Z.C_InvalidRule "InvalidRule" ["index"])) (G_is_list : FnOk P w K mg base CX0 1 Z.a_is_list Z.fd_is_list P_is_list (spD b 1 (sp_is_list Z.C_dE))) (G_is_rule : FnOk P w K mg base CX0 4 Z.a_is_rule Z.fd_is_rule P_is_rule (spD b 4 sp_is_rule)) : FnOk P w K mg base CX0 5 Z.a_check_rules Z.fd_check_rules P_check_rules (spD b 4 (calmT (sp_check_rules Z.C_dE Z.C_InvalidRule Z.C_DuplicateRule))) := DL.FnOk.calm (okX_check_rules Z G_DuplicateRule___init__ G_InvalidRule___init__ G_is_list G_is_rule) fun _ _ h => h
theorem cn_mono {D E : Addr} {ds : List Dt} {Q Q' : Dt → Prop} {R : Xd → Prop} (h : sp_check_names D E ds Q R) (q : ∀ d, Q d → Q' d) : sp_check_names D E ds Q' R := by
  obtain ⟨s0, e, hk, hE, hX⟩ := h
  exact ⟨s0, e, hk, hE, fun xs hs => ⟨(hX xs hs).1, (hX xs hs).2.1, fun a => q _ ((hX xs hs).2.2 a)⟩⟩
theorem cd_mono {E : Addr} {ds : List Dt} {Q Q' : Dt → Prop} {R : Xd → Prop} (h : sp_check_different E ds Q R) (q : ∀ d, Q d → Q' d) : sp_check_different E ds Q' R := by
  obtain ⟨ns, s0, e, hs, hE, hQ⟩ := h
  exact ⟨ns, s0, e, hs, hE, fun a => q _ (hQ a)⟩
theorem cc_mono {E : Addr} {ds : List Dt} {Q Q' : Dt → Prop} {R : Xd → Prop} (h : sp_check_count E ds Q R) (q : ∀ d, Q d → Q' d) : sp_check_count E ds Q' R := by
  obtain ⟨xs, s0, lo, hi, e, hs, hE, hQ⟩ := h
  exact ⟨xs, s0, lo, hi, e, hs, hE, fun a c => q _ (hQ a c)⟩
theorem cr_mono {D E1 E2 : Addr} {ds : List Dt} {Q Q' : Dt → Prop} {R : Xd → Prop} (h : sp_check_rules D E1 E2 ds Q R) (q : ∀ d, Q d → Q' d) : sp_check_rules D E1 E2 ds Q' R := by
  obtain ⟨s1, s2, s3, e, hQ⟩ := h
  exact ⟨s1, s2, s3, e, q _ hQ⟩
/-- the fields of a program whose rules were not given -/
@[reducible] def ins6P (D : Addr) (ms rg sg : List Str) : List (Str × Dt) := [("_modes", .tup (ms.map Dt.str)), ("_registers", .tup (rg.map Dt.str)), ("_signs", .tup (sg.map Dt.str)), ("_rules", .ptr D), ("_rule_for", .dT [])]
/-- a sequence of these names -/
def sqOf (s : Dt) (ns : List Str) : Prop := s = .lst (ns.map Dt.str) ∨ s = .tup (ns.map Dt.str)
def sp_Program___init__ (C D E1 E2 E3 E4 E5 E6 : Addr) : DIpX := fun ds Q R => ∃ (s1 s2 s3 s4 : Dt), ds = [s1, s2, s3, s4] ∧
  sp_check_names D E1 [s1] (fun _ => sp_check_names D E1 [s2] (fun _ => sp_check_names D E1 [s3] (fun _ =>
  sp_check_different E2 [s1] (fun _ => sp_check_different E2 [s2] (fun _ => sp_check_different E2 [s3] (fun _ =>
  sp_check_count E3 [s1, .int 1, .int 4] (fun _ => sp_check_count E3 [s2, .int 0, .int 4] (fun _ => sp_check_count E3 [s3, .int 1, .int 6] (fun _ =>
  ∃ (ms rg sg : List Str), sqOf s1 ms ∧ sqOf s2 rg ∧ sqOf s3 sg ∧ ms.length ≤ 4 ∧ rg.length ≤ 4 ∧
  ((8 : Int) < (ms.length : Int) * ((rg.length : Int) + 1) → R (E4, excF "TooWide" ["most"] Dt.str [.int 8])) ∧ ((ms.length : Int) * ((rg.length : Int) + 1) ≤ 8 →
  sp_check_rules D E5 E6 [s4, s1, s2, s3] (fun _ => s4 = .ptr D ∧ Q (ins6P D ms rg sg)) R)) R) R) R) R) R) R) R) R) R
theorem okX_Program___init__ (Z : Fc K mg) (GX_check_count : FnOk P w K mg base (L2.CX P w) 3 Z.a_check_count Z.fd_check_count P_check_count (spDX b 3 (sp_check_count Z.C_InvalidCount))) (GX_check_different : FnOk P w K mg base (L2.CX P w) 3 Z.a_check_different Z.fd_check_different P_check_different (spDX b 1 (sp_check_different Z.C_DuplicateName))) (GX_check_names : FnOk P w K mg base (L2.CX P w) 3 Z.a_check_names Z.fd_check_names P_check_names (spDX b 1 (sp_check_names Z.C_dE Z.C_InvalidName))) (GX_check_rules : FnOk P w K mg base (L2.CX P w) 5 Z.a_check_rules Z.fd_check_rules P_check_rules (spDX b 4 (sp_check_rules Z.C_dE Z.C_InvalidRule Z.C_DuplicateRule))) (G_TooWide___init__ : FnOk P w K mg base CX0 1 Z.a_TooWide___init__ Z.fd_TooWide___init__ P_TooWide___init__ (spExc Z.C_TooWide "TooWide" ["most"])) : FnOk P w K mg base (L2.CX P w) 6 Z.a_Program___init__ Z.fd_Program___init__ P_Program___init__ (spIX b Z.C_Program 4 (sp_Program___init__ Z.C_Program Z.C_dE Z.C_InvalidName Z.C_DuplicateName Z.C_InvalidCount Z.C_TooWide Z.C_InvalidRule Z.C_DuplicateRule)) := by
  refine fn_IXV Z.F_Program___init__ sc_Program___init__ rfl fun X outer cdv A s H E hX hr F0 H0 R M => ?_
  subst hX
  have nd := sc_Program___init__.nd
  refine ⟨_, (ssx_cons (sx_expr (x_callX M (GX_check_names) (hr.mono (by decide)) (by rfl) Z.g_check_names Z.F_check_names.kp Z.b_check_names (a_cons (xv 1) a_nil)))
      (ssx_cons (sx_expr (x_callX M (GX_check_names) (hr.mono (by decide)) (by rfl) Z.g_check_names Z.F_check_names.kp Z.b_check_names (a_cons (xv 2) a_nil)))
      (ssx_cons (sx_expr (x_callX M (GX_check_names) (hr.mono (by decide)) (by rfl) Z.g_check_names Z.F_check_names.kp Z.b_check_names (a_cons (xv 3) a_nil)))
      (ssx_cons (sx_expr (x_callX M (GX_check_different) (hr.mono (by decide)) (by rfl) Z.g_check_different Z.F_check_different.kp Z.b_check_different (a_cons (xv 1) a_nil)))
      (ssx_cons (sx_expr (x_callX M (GX_check_different) (hr.mono (by decide)) (by rfl) Z.g_check_different Z.F_check_different.kp Z.b_check_different (a_cons (xv 2) a_nil)))
      (ssx_cons (sx_expr (x_callX M (GX_check_different) (hr.mono (by decide)) (by rfl) Z.g_check_different Z.F_check_different.kp Z.b_check_different (a_cons (xv 3) a_nil)))
      (ssx_cons (sx_expr (x_callX M (GX_check_count) (hr.mono (by decide)) (by rfl) Z.g_check_count Z.F_check_count.kp Z.b_check_count (a_cons (xv 1) (a_cons x_int (a_cons (x_gint (by rfl) Z.c_MOST_MODES) a_nil)))))
      (ssx_cons (sx_expr (x_callX M (GX_check_count) (hr.mono (by decide)) (by rfl) Z.g_check_count Z.F_check_count.kp Z.b_check_count (a_cons (xv 2) (a_cons x_int (a_cons (x_gint (by rfl) Z.c_MOST_REGISTERS) a_nil)))))
      (ssx_cons (sx_expr (x_callX M (GX_check_count) (hr.mono (by decide)) (by rfl) Z.g_check_count Z.F_check_count.kp Z.b_check_count (a_cons (xv 3) (a_cons x_int (a_cons (x_gint (by rfl) Z.c_MOST_SIGNS) a_nil)))))
      (ssx_cons (sx_if (t_gt (x_mul (x_len (by rfl) Z.z_len (a_cons (xv 1) a_nil)) (x_addI (x_len (by rfl) Z.z_len (a_cons (xv 2) a_nil)) x_int)) (x_clsi (by rfl) Z.mg_Program Z.cr_Program Z.cv_Program_MOST_WIDTH)) (ssx_one (sx_raise rfl M Z.ox_TooWide Z.ic_TooWide Z.ti_TooWide (G_TooWide___init__) (hr.mono (by decide)) Z.b_TooWide___init__ (by rfl) Z.mg_TooWide (by decide) (a_cons (x_clsi (by rfl) Z.mg_Program Z.cr_Program Z.cv_Program_MOST_WIDTH) a_nil))) ssx_nil)
      (ssx_cons (sx_expr (x_callX M (GX_check_rules) (hr.mono (by decide)) (by rfl) Z.g_check_rules Z.F_check_rules.kp Z.b_check_rules (a_cons (xv 4) (a_cons (xv 1) (a_cons (xv 2) (a_cons (xv 3) a_nil))))))
      (ssx_cons (s_fld 0 Z.cl_Program Z.na_Program__modes (x_tupK (by rfl) Z.z_tuple (a_cons (xv 1) a_nil))).x
      (ssx_cons (s_fld 0 Z.cl_Program Z.na_Program__registers (x_tupK (by rfl) Z.z_tuple (a_cons (xv 2) a_nil))).x
      (ssx_cons (s_fld 0 Z.cl_Program Z.na_Program__signs (x_tupK (by rfl) Z.z_tuple (a_cons (xv 3) a_nil))).x
      (ssx_cons (s_fld 0 Z.cl_Program Z.na_Program__rules (x_tupK (by rfl) Z.z_tuple (a_cons (xv 4) a_nil))).x
      (ssx_one (s_fld 0 Z.cl_Program Z.na_Program__rule_for (x_dt rfl nd hr.units (vs := [5]) (i_seqK 4) (blkOk_by (own := [("rule", 5)]) (N := N_Program___init__) (sc := (defScope s_Program___init__)) (by decide +kernel)) (fun _ => (g_name (i := 5) nd rfl (by first | exact .inl rfl | exact .inr rfl))) (fun _ => ts_nil) (fun _ => (x_tup (a_cons (x_ix (xv 5) x_int) (a_cons (x_ix (xv 5) x_int) a_nil)))) (fun _ => (xv 5)) (by simp))).x)))))))))))))))), fun l ds Q hl hT => ?_⟩
  obtain ⟨s1, s2, s3, s4, rfl, hT⟩ := hT
  rw [show startI N_Program___init__ l Z.C_Program [s1, s2, s3, s4] = [.obj l (.ins Z.C_Program []), .val s1, .val s2, .val s3, .val s4, .un] from rfl]
  walk_at "gs"
  refine cn_mono hT fun _ hT => ?_
  walk_at "gs"
  refine cn_mono hT fun _ hT => ?_
  walk_at "gs"
  refine cn_mono hT fun _ hT => ?_
  walk_at "gs"
  refine cd_mono hT fun _ hT => ?_
  walk_at "gs"
  refine cd_mono hT fun _ hT => ?_
  walk_at "gs"
  refine cd_mono hT fun _ hT => ?_
  walk_at "gs"
  refine cc_mono hT fun _ hT => ?_
  walk_at "gs"
  refine cc_mono hT fun _ hT => ?_
  walk_at "gs"
  refine cc_mono hT fun _ hT => ?_
  obtain ⟨ms, rg, sg, h1, h2, h3, hm4, hr4, hW, hT⟩ := hT
  rcases h1 with rfl | rfl <;> rcases h2 with rfl | rfl <;> rcases h3 with rfl | rfl
  all_goals
    walk_at "gs"
    refine ⟨.inl ⟨by rw [List.length_map]; omega, by rw [List.length_map]; omega⟩, ?_⟩
    walk_at "gs"
    rw [List.length_map, List.length_map]
    cases hw : decide ((8 : Int) < (ms.length : Int) * ((rg.length : Int) + 1)) with
    | true =>
      walk_at "gs"
      exact hW (of_decide_eq_true hw)
    | false =>
      walk_at "gs"
      refine cr_mono (hT (Int.not_lt.mp (of_decide_eq_false hw))) fun _ hT => ?_
      obtain ⟨rfl, hR⟩ := hT
      walk_at "gs"
      refine ⟨Z.kt_dE, ?_⟩
      walk_at "gs"
      refine ⟨Z.kt_dE, Nat.zero_le _, fun i acc => acc = [], rfl, fun i d acc hd _ ha => absurd hd (by simp), fun acc _ ha => ?_⟩
      subst ha
      exact ⟨_, rfl, hR⟩

theorem ok_Program___init__ (Z : Fc K mg) (GX_check_count : FnOk P w K mg base (L2.CX P w) 3 Z.a_check_count Z.fd_check_count P_check_count (spDX b 3 (sp_check_count Z.C_InvalidCount))) (GX_check_different : FnOk P w K mg base (L2.CX P w) 3 Z.a_check_different Z.fd_check_different P_check_different (spDX b 1 (sp_check_different Z.C_DuplicateName))) (GX_check_names : FnOk P w K mg base (L2.CX P w) 3 Z.a_check_names Z.fd_check_names P_check_names (spDX b 1 (sp_check_names Z.C_dE Z.C_InvalidName))) (GX_check_rules : FnOk P w K mg base (L2.CX P w) 5 Z.a_check_rules Z.fd_check_rules P_check_rules (spDX b 4 (sp_check_rules Z.C_dE Z.C_InvalidRule Z.C_DuplicateRule))) (G_TooWide___init__ : FnOk P w K mg base CX0 1 Z.a_TooWide___init__ Z.fd_TooWide___init__ P_TooWide___init__ (spExc Z.C_TooWide "TooWide" ["most"])) : FnOk P w K mg base CX0 6 Z.a_Program___init__ Z.fd_Program___init__ P_Program___init__ (spI b Z.C_Program 4 (calmI (sp_Program___init__ Z.C_Program Z.C_dE Z.C_InvalidName Z.C_DuplicateName Z.C_InvalidCount Z.C_TooWide Z.C_InvalidRule Z.C_DuplicateRule))) := DL.FnOk.calmI (okX_Program___init__ Z GX_check_count GX_check_different GX_check_names GX_check_rules G_TooWide___init__) fun _ _ h => h
def sp_Program_idle (C D E1 E2 E3 E4 E5 E6 : Addr) : DSpX := fun ds Q R => ∃ xs : List Dt, ds = [.ptr C, .tup xs] ∧ sp_Program___init__ C D E1 E2 E3 E4 E5 E6 [.lst [.str "on"], .lst [], .tup xs, .ptr D] (fun fs => Q (.ins C fs)) R
theorem okX_Program_idle (Z : Fc K mg) (GX_Program___init__ : FnOk P w K mg base (L2.CX P w) 6 Z.a_Program___init__ Z.fd_Program___init__ P_Program___init__ (spIX b Z.C_Program 4 (sp_Program___init__ Z.C_Program Z.C_dE Z.C_InvalidName Z.C_DuplicateName Z.C_InvalidCount Z.C_TooWide Z.C_InvalidRule Z.C_DuplicateRule))) : FnR P w K mg base (L2.CX P w) 8 Z.a_Program_idle (spSX b 1 (sp_Program_idle Z.C_Program Z.C_dE Z.C_InvalidName Z.C_DuplicateName Z.C_InvalidCount Z.C_TooWide Z.C_InvalidRule Z.C_DuplicateRule)) := by
  refine fn_SX (ps := ["cls"]) (pv := "signs") (DL.Fun.v Z.F_Program_idle) sc_Program_idle Z.bs_Program_idle fun X outer cdv A s H E hX hr F0 H0 R M => ?_
  subst hX
  have nd := sc_Program_idle.nd
  refine ⟨_, (ssx_one (sx_ret (x_makeXVD (i := 0) M Z.mk_Program (GX_Program___init__) (hr.mono (by decide)) Z.bd_Program___init__ (a_cons (x_l (l_lst (a_cons x_str a_nil))) (a_cons (x_l (l_lst a_nil)) (a_cons (xv 1) a_nil)))))), fun ds Q hl hT => ?_⟩
  obtain ⟨xs, rfl, hT⟩ := hT
  rw [show startD N_Program_idle [.ptr Z.C_Program, .tup xs] = [.val (.ptr Z.C_Program), .val (.tup xs)] from rfl]
  walk_at "gs"
  first | exact hT | trace_state

theorem ok_Program_idle (Z : Fc K mg) (GX_Program___init__ : FnOk P w K mg base (L2.CX P w) 6 Z.a_Program___init__ Z.fd_Program___init__ P_Program___init__ (spIX b Z.C_Program 4 (sp_Program___init__ Z.C_Program Z.C_dE Z.C_InvalidName Z.C_DuplicateName Z.C_InvalidCount Z.C_TooWide Z.C_InvalidRule Z.C_DuplicateRule))) : FnR P w K mg base CX0 8 Z.a_Program_idle (spS b 1 (calmT (sp_Program_idle Z.C_Program Z.C_dE Z.C_InvalidName Z.C_DuplicateName Z.C_InvalidCount Z.C_TooWide Z.C_InvalidRule Z.C_DuplicateRule))) := fnR_calm (okX_Program_idle Z GX_Program___init__) fun _ _ h => h
theorem ok_same (Z : Fc K mg) : ∀ n : Nat, FnOk P w K mg base CX0 (n + 1) Z.a_same Z.fd_same P_same (spD b 2 (sameT n))
  | 0 => sameT_zero
  | n + 1 => by
    have G_same : FnOk P w K mg base CX0 (n + 1) Z.a_same Z.fd_same P_same (spD b 2 (sameT n)) := ok_same Z n
    refine fn_D Z.F_same sc_same fun X outer cdv A s H E hX hr => ?_
    subst hX
    have nd := sc_same.nd
    refine ⟨_, (ss_cons (s_if (t_isN (xv 1)) (ss_one (s_ret (x_isN (xv 0)))) ss_nil)
      (ss_cons (s_if (t_w (w_or (t_val (x_isi1 kit_kbool (by rfl) Z.z_isinstance (by rfl) Z.z_bool (by decide +kernel) (xv 1))) (w_or1 (t_val (x_isi1 kit_kbool (by rfl) Z.z_isinstance (by rfl) Z.z_bool (by decide +kernel) (xv 0)))))) (ss_one (s_ret (x_and (x_isi1 kit_kbool (by rfl) Z.z_isinstance (by rfl) Z.z_bool (by decide +kernel) (xv 1)) (x_and (x_isi1 kit_kbool (by rfl) Z.z_isinstance (by rfl) Z.z_bool (by decide +kernel) (xv 0)) (x_one (x_eq hr.units (xv 0) (xv 1))))))) ss_nil)
      (ss_cons (s_if (t_val (x_isi2 kit_kint kit_kstr (by rfl) Z.z_isinstance (by rfl) Z.z_int (by decide +kernel) (by rfl) Z.z_str (by decide +kernel) (xv 1))) (ss_one (s_ret (x_and (x_isi2 kit_kint kit_kstr (by rfl) Z.z_isinstance (by rfl) Z.z_int (by decide +kernel) (by rfl) Z.z_str (by decide +kernel) (xv 0)) (x_and (x_eq hr.units (x_isi1 kit_kint (by rfl) Z.z_isinstance (by rfl) Z.z_int (by decide +kernel) (xv 0)) (x_isi1 kit_kint (by rfl) Z.z_isinstance (by rfl) Z.z_int (by decide +kernel) (xv 1))) (x_one (x_eq hr.units (xv 0) (xv 1))))))) ss_nil)
      (ss_cons (s_if (t_w (w_or (t_ne hr.units (x_isi1 kit_klist (by rfl) Z.z_isinstance (by rfl) Z.z_list (by decide +kernel) (xv 1)) (x_isi1 kit_klist (by rfl) Z.z_isinstance (by rfl) Z.z_list (by decide +kernel) (xv 0))) (w_or1 (t_ne hr.units (x_isi1 kit_ktuple (by rfl) Z.z_isinstance (by rfl) Z.z_tuple (by decide +kernel) (xv 1)) (x_isi1 kit_ktuple (by rfl) Z.z_isinstance (by rfl) Z.z_tuple (by decide +kernel) (xv 0)))))) (ss_one (s_ret x_bl)) ss_nil)
      (ss_cons (s_if (t_w (w_or (t_not (t_val (x_isi2 kit_klist kit_ktuple (by rfl) Z.z_isinstance (by rfl) Z.z_list (by decide +kernel) (by rfl) Z.z_tuple (by decide +kernel) (xv 0)))) (w_or1 (t_ne hr.units (x_len (by rfl) Z.z_len (a_cons (xv 0) a_nil)) (x_len (by rfl) Z.z_len (a_cons (xv 1) a_nil)))))) (ss_one (s_ret x_bl)) ss_nil)
      (ss_one (s_ret (x_all rfl (by rfl) Z.z_all (a_cons (x_l (l_lc rfl nd (vs := [2, 3]) (i_zip2 (by rfl) Z.z_zip (a_cons (xv 0) (a_cons (xv 1) a_nil))) (blkOk_by (own := [("_law_one", 2), ("_law_two", 3)]) (N := N_same) (sc := (defScope s_same)) (by decide +kernel)) (fun _ => (g_tup' (m := 2) rfl (gs_cons (g_name (i := 2) nd rfl (by first | exact .inl rfl | exact .inr rfl)) (gs_cons (g_name (i := 3) nd rfl (by first | exact .inl rfl | exact .inr rfl)) gs_nil)))) (fun _ => ts_nil) (fun _ => (x_call (CX := CX0) (G_same) hr (by rfl) Z.g_same Z.F_same.kp Z.b_same (a_cons (xv 2) (a_cons (xv 3) a_nil)))) (by simp))) a_nil))))))))), fun ds R hl hT => ?_⟩
    match ds, hT with
    | [x, y], ⟨hxy, ok, hd, hR⟩ =>
    subst hxy
    rw [show startD N_same [x, x] = [.val x, .val x, .un, .un] from rfl]
    have seq : ∀ xs : List Dt, xs.length ≤ 100000 → okSL xs = true → depL xs ≤ n → ∀ γ : Gm, γ = [.val x, .val x, .un, .un] →
        dLc (fun γ P => P (zipD xs xs)) (gTu 2 (gsCons (gN 2) (gsCons (gN 3) gsNil))) (fun _ P => P true) (dCall 2 (sameT n) (aCons (dVar 2) (aCons (dVar 3) aNil))) [2, 3] γ (fun ds => ∃ ns : List Bool, [Dt.lst ds] = [Dt.lst (ns.map Dt.bl)] ∧ R (.bl (ns.all id))) := fun xs hl ho hdp γ hγ => by
      subst hγ
      have hz : (zipD xs xs).length = xs.length := by rw [zipD_len]; omega
      refine ⟨by rw [hz]; exact hl, fun i acc => acc = List.replicate i (.bl true), rfl, fun i d acc hi _ e => ?_, fun acc _ e => ?_⟩
      · have hx : ∃ z, xs[i]? = some z ∧ d = .tup [z, z] := by
          have h2 := hi
          unfold zipD at h2
          rw [List.getElem?_zipWith] at h2
          cases e3 : xs[i]? with
          | none => rw [e3] at h2; cases h2
          | some z => rw [e3] at h2; exact ⟨z, rfl, (Option.some.inj h2).symm⟩
        obtain ⟨z, hz1, rfl⟩ := hx
        have hm := List.mem_of_getElem? hz1
        walk_at "go1"
        refine ⟨rfl, ?_⟩
        walk_at "go1"
        refine ⟨rfl, rfl, okSL_mem ho hm, Nat.le_trans (depL_mem hm) hdp, ?_⟩
        show acc ++ [Dt.bl true] = List.replicate (i + 1) (.bl true)
        rw [e, List.replicate_succ']
      · refine ⟨List.replicate xs.length true, ?_, ?_⟩
        · rw [e, hz, List.map_replicate]
        · have hall : (List.replicate xs.length true).all id = true := by
            rw [List.all_eq_true]
            intro b hb
            exact List.eq_of_mem_replicate hb
          rw [hall]
          exact hR
    cases x with
    | non => walk_at "go"; exact hR
    | bl k => walk_at "go"; cases k <;> exact hR
    | int k =>
      walk_at "go"
      rw [show (decide (k = k)) = true from decide_eq_true rfl]
      exact hR
    | str k =>
      walk_at "go"
      rw [show (decide (k = k)) = true from decide_eq_true rfl]
      exact hR
    | lst xs =>
      have ok2 : (decide (xs.length ≤ 100000) && okSL xs) = true := ok
      rw [Bool.and_eq_true] at ok2
      have hd2 : depL xs + 1 ≤ n + 1 := hd
      walk_at "go"
      rw [show (decide ((xs.length : Int) = (xs.length : Int))) = true from decide_eq_true rfl]
      walk_at "go1"
      refine ⟨rfl, ?_⟩
      walk_at "go1"
      exact seq xs (of_decide_eq_true ok2.1) ok2.2 (by omega) _ rfl
    | tup xs =>
      have ok2 : (decide (xs.length ≤ 100000) && okSL xs) = true := ok
      rw [Bool.and_eq_true] at ok2
      have hd2 : depL xs + 1 ≤ n + 1 := hd
      walk_at "go"
      rw [show (decide ((xs.length : Int) = (xs.length : Int))) = true from decide_eq_true rfl]
      walk_at "go1"
      refine ⟨rfl, ?_⟩
      walk_at "go1"
      exact seq xs (of_decide_eq_true ok2.1) ok2.2 (by omega) _ rfl
    | ins C fs => cases ok
    | dT kvs => cases ok
    | dK kvs => cases ok
    | ptr a => cases ok
    | bag => cases ok
    | exc C fs => cases ok
    | lam L k => cases ok
    | clo L ds => cases ok

/-- a program whose rules were not given -/
@[reducible] def progP (C D : Addr) (ms rg sg : List Str) : Dt := .ins C (ins6P D ms rg sg)
def sp_Program_modes (C D : Addr) : DSp := fun ds P => ∃ (ms rg sg : List Str), ds = [progP C D ms rg sg] ∧ ms.length ≤ 100 ∧ P (.lst (ms.map Dt.str))
theorem ok_Program_modes (Z : Fc K mg)  : FnOk P w K mg base CX0 1 Z.a_Program_modes Z.fd_Program_modes P_Program_modes (spD b 1 (sp_Program_modes Z.C_Program Z.C_dE)) := by
  refine fn_D Z.F_Program_modes sc_Program_modes fun X outer cdv A s H E hX hr => ?_
  subst hX
  have nd := sc_Program_modes.nd
  refine ⟨_, (ss_one (s_ret (x_l (l_listOf (by rfl) Z.z_list (a_cons (x_fld Z.cl_Program Z.na_Program__modes (xv 0)) a_nil))))), fun ds R hl hT => ?_⟩
  obtain ⟨ms, rg, sg, rfl, hl, hR⟩ := hT
  rw [show startD N_Program_modes [progP Z.C_Program Z.C_dE ms rg sg] = [.val (progP Z.C_Program Z.C_dE ms rg sg)] from rfl]
  walk_at "go"
  exact hR

def sp_Program_registers (C D : Addr) : DSp := fun ds P => ∃ (ms rg sg : List Str), ds = [progP C D ms rg sg] ∧ rg.length ≤ 100 ∧ P (.lst (rg.map Dt.str))
theorem ok_Program_registers (Z : Fc K mg)  : FnOk P w K mg base CX0 1 Z.a_Program_registers Z.fd_Program_registers P_Program_registers (spD b 1 (sp_Program_registers Z.C_Program Z.C_dE)) := by
  refine fn_D Z.F_Program_registers sc_Program_registers fun X outer cdv A s H E hX hr => ?_
  subst hX
  have nd := sc_Program_registers.nd
  refine ⟨_, (ss_one (s_ret (x_l (l_listOf (by rfl) Z.z_list (a_cons (x_fld Z.cl_Program Z.na_Program__registers (xv 0)) a_nil))))), fun ds R hl hT => ?_⟩
  obtain ⟨ms, rg, sg, rfl, hl, hR⟩ := hT
  rw [show startD N_Program_registers [progP Z.C_Program Z.C_dE ms rg sg] = [.val (progP Z.C_Program Z.C_dE ms rg sg)] from rfl]
  walk_at "go"
  exact hR

def sp_Program_signs (C D : Addr) : DSp := fun ds P => ∃ (ms rg sg : List Str), ds = [progP C D ms rg sg] ∧ sg.length ≤ 100 ∧ P (.lst (sg.map Dt.str))
theorem ok_Program_signs (Z : Fc K mg)  : FnOk P w K mg base CX0 1 Z.a_Program_signs Z.fd_Program_signs P_Program_signs (spD b 1 (sp_Program_signs Z.C_Program Z.C_dE)) := by
  refine fn_D Z.F_Program_signs sc_Program_signs fun X outer cdv A s H E hX hr => ?_
  subst hX
  have nd := sc_Program_signs.nd
  refine ⟨_, (ss_one (s_ret (x_l (l_listOf (by rfl) Z.z_list (a_cons (x_fld Z.cl_Program Z.na_Program__signs (xv 0)) a_nil))))), fun ds R hl hT => ?_⟩
  obtain ⟨ms, rg, sg, rfl, hl, hR⟩ := hT
  rw [show startD N_Program_signs [progP Z.C_Program Z.C_dE ms rg sg] = [.val (progP Z.C_Program Z.C_dE ms rg sg)] from rfl]
  walk_at "go"
  exact hR

def sp_Program_rules (C D : Addr) : DSp := fun ds P => ∃ (ms rg sg : List Str), ds = [progP C D ms rg sg] ∧ P (.lst [])
theorem ok_Program_rules (Z : Fc K mg)  : FnOk P w K mg base CX0 1 Z.a_Program_rules Z.fd_Program_rules P_Program_rules (spD b 1 (sp_Program_rules Z.C_Program Z.C_dE)) := by
  refine fn_D Z.F_Program_rules sc_Program_rules fun X outer cdv A s H E hX hr => ?_
  subst hX
  have nd := sc_Program_rules.nd
  refine ⟨_, (ss_one (s_ret (x_l (l_listK (by rfl) Z.z_list (a_cons (x_fld Z.cl_Program Z.na_Program__rules (xv 0)) a_nil))))), fun ds R hl hT => ?_⟩
  obtain ⟨ms, rg, sg, rfl, hR⟩ := hT
  rw [show startD N_Program_rules [progP Z.C_Program Z.C_dE ms rg sg] = [.val (progP Z.C_Program Z.C_dE ms rg sg)] from rfl]
  walk_at "go"
  exact ⟨Z.kt_dE, hR⟩

def sp_Program_width (C D : Addr) : DSp := fun ds P => ∃ (ms rg sg : List Str), ds = [progP C D ms rg sg] ∧ ms.length ≤ 8 ∧ rg.length ≤ 8 ∧ P (.int ((ms.length : Int) * ((rg.length : Int) + 1)))
theorem ok_Program_width (Z : Fc K mg)  : FnOk P w K mg base CX0 1 Z.a_Program_width Z.fd_Program_width P_Program_width (spD b 1 (sp_Program_width Z.C_Program Z.C_dE)) := by
  refine fn_D Z.F_Program_width sc_Program_width fun X outer cdv A s H E hX hr => ?_
  subst hX
  have nd := sc_Program_width.nd
  refine ⟨_, (ss_one (s_ret (x_mul (x_len (by rfl) Z.z_len (a_cons (x_fld Z.cl_Program Z.na_Program__modes (xv 0)) a_nil)) (x_addI (x_len (by rfl) Z.z_len (a_cons (x_fld Z.cl_Program Z.na_Program__registers (xv 0)) a_nil)) x_int)))), fun ds R hl hT => ?_⟩
  obtain ⟨ms, rg, sg, rfl, h1, h2, hR⟩ := hT
  rw [show startD N_Program_width [progP Z.C_Program Z.C_dE ms rg sg] = [.val (progP Z.C_Program Z.C_dE ms rg sg)] from rfl]
  walk_at "go"
  rw [List.length_map, List.length_map]
  exact ⟨.inl ⟨by omega, by omega⟩, hR⟩

def sp_Program_first_state (C D : Addr) : DSp := fun ds P => ∃ (m0 : Str) (ms rg sg : List Str), ds = [progP C D (m0 :: ms) rg sg] ∧ rg.length ≤ 8 ∧ P (stD (m0, List.replicate rg.length 0))
theorem ok_Program_first_state (Z : Fc K mg)  : FnOk P w K mg base CX0 1 Z.a_Program_first_state Z.fd_Program_first_state P_Program_first_state (spD b 1 (sp_Program_first_state Z.C_Program Z.C_dE)) := by
  refine fn_D Z.F_Program_first_state sc_Program_first_state fun X outer cdv A s H E hX hr => ?_
  subst hX
  have nd := sc_Program_first_state.nd
  refine ⟨_, (ss_one (s_ret (x_tup (a_cons (x_ix (x_fld Z.cl_Program Z.na_Program__modes (xv 0)) x_int) (a_cons (x_repT (x_tup (a_cons x_int a_nil)) (x_len (by rfl) Z.z_len (a_cons (x_fld Z.cl_Program Z.na_Program__registers (xv 0)) a_nil))) a_nil))))), fun ds R hl hT => ?_⟩
  obtain ⟨m0, ms, rg, sg, rfl, h2, hR⟩ := hT
  rw [show startD N_Program_first_state [progP Z.C_Program Z.C_dE (m0 :: ms) rg sg] = [.val (progP Z.C_Program Z.C_dE (m0 :: ms) rg sg)] from rfl]
  walk_at "go"
  refine ⟨.str m0, atI_nat (j := 0) rfl, ?_⟩
  walk_at "go"
  have ez : (List.replicate (((rg.map Dt.str).length : Int)).toNat [Dt.int 0]).flatten = (List.replicate rg.length 0).map Dt.int := by
    rw [List.length_map, Int.toNat_natCast, zeros_flat]
  rw [ez]
  refine ⟨by rw [List.length_map]; omega, ?_⟩
  exact ⟨Nat.le_of_ble_eq_true rfl, hR⟩

def sp_Program_is_state (C D : Addr) : DSp := fun ds P => ∃ (ms rg sg : List Str) (x : Dt), ds = [progP C D ms rg sg, x] ∧ stOk x ∧ P (.bl (stateD ms rg x))
theorem ok_Program_is_state (Z : Fc K mg) (G_is_whole : FnOk P w K mg base CX0 1 Z.a_is_whole Z.fd_is_whole P_is_whole (spD b 1 sp_is_whole)) : FnOk P w K mg base CX0 2 Z.a_Program_is_state Z.fd_Program_is_state P_Program_is_state (spD b 2 (sp_Program_is_state Z.C_Program Z.C_dE)) := by
  refine fn_D Z.F_Program_is_state sc_Program_is_state fun X outer cdv A s H E hX hr => ?_
  subst hX
  have nd := sc_Program_is_state.nd
  refine ⟨_, (ss_cons (s_if (t_w (w_or (t_not (t_val (x_isi1 kit_ktuple (by rfl) Z.z_isinstance (by rfl) Z.z_tuple (by decide +kernel) (xv 1)))) (w_or1 (t_ne hr.units (x_len (by rfl) Z.z_len (a_cons (xv 1) a_nil)) x_int)))) (ss_one (s_ret x_bl)) ss_nil)
      (ss_cons (s_asg (xv 1) (g_tup' (m := 2) rfl (gs_cons (g_name (i := 2) nd rfl (by first | exact .inl rfl | exact .inr rfl)) (gs_cons (g_name (i := 3) nd rfl (by first | exact .inl rfl | exact .inr rfl)) gs_nil))))
      (ss_cons (s_if (t_w (w_or (t_notIn (xv 2) (x_fld Z.cl_Program Z.na_Program__modes (xv 0))) (w_or1 (t_not (t_val (x_isi1 kit_ktuple (by rfl) Z.z_isinstance (by rfl) Z.z_tuple (by decide +kernel) (xv 3))))))) (ss_one (s_ret x_bl)) ss_nil)
      (ss_one (s_ret (x_and (x_eq hr.units (x_len (by rfl) Z.z_len (a_cons (xv 3) a_nil)) (x_len (by rfl) Z.z_len (a_cons (x_fld Z.cl_Program Z.na_Program__registers (xv 0)) a_nil))) (x_one (x_all rfl (by rfl) Z.z_all (a_cons (x_l (l_lc rfl nd (vs := [4]) (i_tup (xv 3)) (blkOk_by (own := [("number", 4)]) (N := N_Program_is_state) (sc := (defScope s_Program_is_state)) (by decide +kernel)) (fun _ => (g_name (i := 4) nd rfl (by first | exact .inl rfl | exact .inr rfl))) (fun _ => ts_nil) (fun _ => (x_call (CX := CX0) (G_is_whole) (hr.mono (by decide)) (by rfl) Z.g_is_whole Z.F_is_whole.kp Z.b_is_whole (a_cons (xv 4) a_nil))) (by simp))) a_nil))))))))), fun ds R hl hT => ?_⟩
  obtain ⟨ms, rg, sg, x, rfl, ⟨hk, _, hx⟩, hR⟩ := hT
  rw [show startD N_Program_is_state [progP Z.C_Program Z.C_dE ms rg sg, x] = [.val (progP Z.C_Program Z.C_dE ms rg sg), .val x, .un, .un, .un] from rfl]
  cases x with
  | tup xs =>
    rcases xs with _ | ⟨m, _ | ⟨y, _ | ⟨c, r⟩⟩⟩
    · walk_at "go"
      exact hR
    · walk_at "go"
      exact hR
    · obtain ⟨fm, ky, hv⟩ := hx m y rfl
      walk_at "go"
      rw [show decide ((([m, y] : List Dt).length : Int) = 2) = true from rfl]
      walk_at "go"
      refine ⟨flat_strs _, ?_⟩
      rw [inD_mem ms fm]
      cases y with
      | tup vs =>
        obtain ⟨hl, hkv⟩ := hv vs rfl
        have hR : R (.bl (memD ms m && (decide (vs.length = rg.length) && vs.all wholeD))) := hR
        cases hm : memD ms m with
        | false => rw [hm] at hR; walk_at "go"; exact hR
        | true =>
          rw [hm] at hR
          walk_at "go"
          rw [show decide ((vs.length : Int) = ((rg.map Dt.str).length : Int)) = decide (vs.length = rg.length) from by rw [List.length_map]; exact decide_eq_decide.mpr Int.ofNat_inj]
          cases hd : decide (vs.length = rg.length) with
          | false => rw [hd] at hR; walk_at "go"; exact hR
          | true =>
            rw [hd] at hR
            walk_at "go"
            refine wd_map (as := vs) (g := fun v => v) (f := fun v => .bl (wholeD v)) (List.map_id' vs).symm (fun i v hv Q hQ => ?_) ?_
            · have kv := List.all_eq_true.mp hkv v (List.mem_of_getElem? hv)
              walk_at "go"
              exact hQ
            · refine all_of (p := wholeD) ?_
              exact hR
      | _ =>
        have hR : R (.bl false) := hR
        cases memD ms m <;> (walk_at "go"; first | exact hR | skip)
    · walk_at "go"
      rw [decF (show ¬ (((m :: y :: c :: r).length : Int) = 2) by rw [List.length_cons, List.length_cons, List.length_cons]; omega)]
      walk_at "go"
      exact hR
  | non => walk_at "go"; exact hR
  | bl k => walk_at "go"; exact hR
  | int k => walk_at "go"; exact hR
  | str k => walk_at "go"; exact hR
  | lst k => walk_at "go"; exact hR
  | dT k => walk_at "go"; exact hR
  | dK k => walk_at "go"; exact hR
  | _ => cases hk

def sp_check_state (C D E : Addr) : DSpX := fun ds Q R => ∃ (ms rg sg : List Str) (x : Dt), ds = [progP C D ms rg sg, x] ∧ stOk x ∧ (stateD ms rg x = false → R (E, excF "InvalidState" [] Dt.str [])) ∧ (stateD ms rg x = true → Q .non)
theorem okX_check_state (Z : Fc K mg) (G_InvalidState___init__ : FnOk P w K mg base CX0 1 Z.a_InvalidState___init__ Z.fd_InvalidState___init__ P_InvalidState___init__ (spExc Z.C_InvalidState "InvalidState" [])) (G_Program_is_state : FnOk P w K mg base CX0 2 Z.a_Program_is_state Z.fd_Program_is_state P_Program_is_state (spD b 2 (sp_Program_is_state Z.C_Program Z.C_dE))) : FnOk P w K mg base (L2.CX P w) 3 Z.a_check_state Z.fd_check_state P_check_state (spDX b 2 (sp_check_state Z.C_Program Z.C_dE Z.C_InvalidState)) := by
  refine fn_DXV (DL.Fun.v Z.F_check_state) sc_check_state fun X outer cdv A s H E hX hr F0 H0 R M => ?_
  subst hX
  have nd := sc_check_state.nd
  refine ⟨_, (ssx_one (sx_if (t_not (t_truth (x_meth Z.cl_Program Z.me_Program_is_state (G_Program_is_state) (hr.mono (by decide)) Z.b_Program_is_state (xv 0) (a_cons (xv 1) a_nil)))) (ssx_one (sx_raise0 rfl M Z.ox_InvalidState Z.ic_InvalidState Z.ti_InvalidState (G_InvalidState___init__) (hr.mono (by decide)) Z.b_InvalidState___init__ (by rfl) Z.mg_InvalidState)) ssx_nil)), fun ds Q hl hT => ?_⟩
  obtain ⟨ms, rg, sg, x, rfl, hx, hE, hQ⟩ := hT
  rw [show startD N_check_state [progP Z.C_Program Z.C_dE ms rg sg, x] = [.val (progP Z.C_Program Z.C_dE ms rg sg), .val x] from rfl]
  walk_at "gs"
  refine ⟨ms, rg, sg, x, rfl, hx, ?_⟩
  cases hs : stateD ms rg x with
  | false =>
    walk_at "gs"
    exact hE hs
  | true =>
    walk_at "gs"
    exact hQ hs

theorem ok_check_state (Z : Fc K mg) (G_InvalidState___init__ : FnOk P w K mg base CX0 1 Z.a_InvalidState___init__ Z.fd_InvalidState___init__ P_InvalidState___init__ (spExc Z.C_InvalidState "InvalidState" [])) (G_Program_is_state : FnOk P w K mg base CX0 2 Z.a_Program_is_state Z.fd_Program_is_state P_Program_is_state (spD b 2 (sp_Program_is_state Z.C_Program Z.C_dE))) : FnOk P w K mg base CX0 3 Z.a_check_state Z.fd_check_state P_check_state (spD b 2 (calmT (sp_check_state Z.C_Program Z.C_dE Z.C_InvalidState))) := DL.FnOk.calm (okX_check_state Z G_InvalidState___init__ G_Program_is_state) fun _ _ h => h
def sp_Program_is_event (C D : Addr) : DSp := fun ds P => ∃ (ms rg sg : List Str) (x : Dt), ds = [progP C D ms rg sg, x] ∧ evOk x ∧ P (.bl (eventD sg x))
theorem ok_Program_is_event (Z : Fc K mg) (G_is_integer : FnOk P w K mg base CX0 2 Z.a_is_integer Z.fd_is_integer P_is_integer (spD b 3 sp_is_integer)) : FnOk P w K mg base CX0 3 Z.a_Program_is_event Z.fd_Program_is_event P_Program_is_event (spD b 2 (sp_Program_is_event Z.C_Program Z.C_dE)) := by
  refine fn_D Z.F_Program_is_event sc_Program_is_event fun X outer cdv A s H E hX hr => ?_
  subst hX
  have nd := sc_Program_is_event.nd
  refine ⟨_, (ss_cons (s_if (t_w (w_or (t_not (t_val (x_isi1 kit_ktuple (by rfl) Z.z_isinstance (by rfl) Z.z_tuple (by decide +kernel) (xv 1)))) (w_or1 (t_ne hr.units (x_len (by rfl) Z.z_len (a_cons (xv 1) a_nil)) x_int)))) (ss_one (s_ret x_bl)) ss_nil)
      (ss_cons (s_asg (xv 1) (g_tup' (m := 2) rfl (gs_cons (g_name (i := 2) nd rfl (by first | exact .inl rfl | exact .inr rfl)) (gs_cons (g_name (i := 3) nd rfl (by first | exact .inl rfl | exact .inr rfl)) gs_nil))))
      (ss_one (s_ret (x_and (x_in (xv 2) (x_fld Z.cl_Program Z.na_Program__signs (xv 0))) (x_one (x_call (CX := CX0) (G_is_integer) (hr.mono (by decide)) (by rfl) Z.g_is_integer Z.F_is_integer.kp Z.b_is_integer (a_cons (xv 3) (a_cons (x_neg (x_gint (by rfl) Z.c_MOST_AMOUNT)) (a_cons (x_gint (by rfl) Z.c_MOST_AMOUNT) a_nil)))))))))), fun ds R hl hT => ?_⟩
  obtain ⟨ms, rg, sg, x, rfl, ⟨hk, hx⟩, hR⟩ := hT
  rw [show startD N_Program_is_event [progP Z.C_Program Z.C_dE ms rg sg, x] = [.val (progP Z.C_Program Z.C_dE ms rg sg), .val x, .un, .un] from rfl]
  cases x with
  | tup xs =>
    rcases xs with _ | ⟨m, _ | ⟨y, _ | ⟨c, r⟩⟩⟩
    · walk_at "go"
      exact hR
    · walk_at "go"
      exact hR
    · obtain ⟨fm, ky⟩ := hx m y rfl
      walk_at "go"
      rw [show decide ((([m, y] : List Dt).length : Int) = 2) = true from rfl]
      walk_at "go"
      refine ⟨flat_strs _, ?_⟩
      rw [inD_mem sg fm]
      have hR : R (.bl (memD sg m && integerD (-1000000000000) 1000000000000 y)) := hR
      cases hm : memD sg m with
      | false => rw [hm] at hR; walk_at "go"; exact hR
      | true =>
        rw [hm] at hR
        walk_at "go"
        exact hR
    · walk_at "go"
      rw [decF (show ¬ (((m :: y :: c :: r).length : Int) = 2) by rw [List.length_cons, List.length_cons, List.length_cons]; omega)]
      walk_at "go"
      exact hR
  | non => walk_at "go"; exact hR
  | bl k => walk_at "go"; exact hR
  | int k => walk_at "go"; exact hR
  | str k => walk_at "go"; exact hR
  | lst k => walk_at "go"; exact hR
  | dT k => walk_at "go"; exact hR
  | dK k => walk_at "go"; exact hR
  | _ => cases hk

def sp_check_events (C D E : Addr) : DSpX := fun ds Q R => ∃ (ms rg sg : List Str) (ys : List Dt), ds = [progP C D ms rg sg, .lst ys] ∧ (∀ y, y ∈ ys → evOk y) ∧ ys.length ≤ 1000 ∧ (∀ (i : Nat) (y : Dt), ys[i]? = some y → eventD sg y = false → (∀ z, z ∈ ys.take i → eventD sg z = true) → R (E, excF "InvalidEvent" ["index"] Dt.str [.int (i : Nat)])) ∧ ((∀ y, y ∈ ys → eventD sg y = true) → Q .non)
theorem okX_check_events (Z : Fc K mg) (G_InvalidEvent___init__ : FnOk P w K mg base CX0 1 Z.a_InvalidEvent___init__ Z.fd_InvalidEvent___init__ P_InvalidEvent___init__ (spExc Z.C_InvalidEvent "InvalidEvent" ["index"])) (G_Program_is_event : FnOk P w K mg base CX0 3 Z.a_Program_is_event Z.fd_Program_is_event P_Program_is_event (spD b 2 (sp_Program_is_event Z.C_Program Z.C_dE))) (G_is_list : FnOk P w K mg base CX0 1 Z.a_is_list Z.fd_is_list P_is_list (spD b 1 (sp_is_list Z.C_dE))) : FnOk P w K mg base (L2.CX P w) 4 Z.a_check_events Z.fd_check_events P_check_events (spDX b 2 (sp_check_events Z.C_Program Z.C_dE Z.C_InvalidEvent)) := by
  refine fn_DXV (DL.Fun.v Z.F_check_events) sc_check_events fun X outer cdv A s H E hX hr F0 H0 R M => ?_
  subst hX
  have nd := sc_check_events.nd
  refine ⟨_, (ssx_cons (sx_if (t_not (t_val (x_call (CX := CX0) (G_is_list) (hr.mono (by decide)) (by rfl) Z.g_is_list Z.F_is_list.kp Z.b_is_list (a_cons (xv 1) a_nil)))) (ssx_one (sx_raise rfl M Z.ox_InvalidEvent Z.ic_InvalidEvent Z.ti_InvalidEvent (G_InvalidEvent___init__) (hr.mono (by decide)) Z.b_InvalidEvent___init__ (by rfl) Z.mg_InvalidEvent (by decide) (a_cons x_int a_nil))) ssx_nil)
      (ssx_one (sx_for rfl (i_enum (by rfl) Z.z_enumerate (a_cons (xv 1) a_nil)) (g_tup' (m := 2) rfl (gs_cons (g_name (i := 2) nd rfl (by first | exact .inl rfl | exact .inr rfl)) (gs_cons (g_name (i := 3) nd rfl (by first | exact .inl rfl | exact .inr rfl)) gs_nil))) (ssx_one (sx_if (t_not (t_truth (x_meth Z.cl_Program Z.me_Program_is_event (G_Program_is_event) (hr.mono (by decide)) Z.b_Program_is_event (xv 0) (a_cons (xv 3) a_nil)))) (ssx_one (sx_raise rfl M Z.ox_InvalidEvent Z.ic_InvalidEvent Z.ti_InvalidEvent (G_InvalidEvent___init__) (hr.mono (by decide)) Z.b_InvalidEvent___init__ (by rfl) Z.mg_InvalidEvent (by decide) (a_cons (xv 2) a_nil))) ssx_nil)) M.po))), fun ds Q hl hT => ?_⟩
  obtain ⟨ms, rg, sg, ys, rfl, hok, hyl, hE, hQ⟩ := hT
  rw [show startD N_check_events [progP Z.C_Program Z.C_dE ms rg sg, .lst ys] = [.val (progP Z.C_Program Z.C_dE ms rg sg), .val (.lst ys), .un, .un] from rfl]
  walk_at "gs"
  refine ⟨.inr rfl, ?_⟩
  walk_at "gs"
  refine for_of (as := ys.zipIdx) (g := fun p => .tup [.int (p.2 : Nat), p.1]) (Iv := fun i γ => (∃ s2 s3 : Sl, γ = [.val (progP Z.C_Program Z.C_dE ms rg sg), .val (.lst ys), s2, s3]) ∧ ∀ z, z ∈ ys.take i → eventD sg z = true) (enumD_zip ys) ?_ (fun i p γ' hp hI => ?_) (fun γ' hI => ?_)
  · exact ⟨⟨_, _, rfl⟩, fun z hz => absurd hz List.not_mem_nil⟩
  · obtain ⟨⟨s2, s3, rfl⟩, hall⟩ := hI
    obtain ⟨y, k⟩ := p
    obtain ⟨rfl, hy⟩ := zipIdx_at hp
    walk_at "gs"
    refine ⟨ms, rg, sg, y, rfl, hok y (List.mem_of_getElem? hy), ?_⟩
    cases he : eventD sg y with
    | true =>
      walk_at "gs"
      refine ⟨⟨_, _, rfl⟩, fun z hz => ?_⟩
      rw [List.take_add_one, hy] at hz
      rcases List.mem_append.mp hz with q | q
      · exact hall z q
      · rw [List.mem_singleton.mp q]; exact he
    | false =>
      walk_at "gs"
      exact hE k y hy he hall
  · obtain ⟨⟨s2, s3, rfl⟩, hall⟩ := hI
    walk_at "gs"
    refine hQ fun y hy => hall y ?_
    rw [List.length_zipIdx, List.take_length]
    exact hy

theorem ok_check_events (Z : Fc K mg) (G_InvalidEvent___init__ : FnOk P w K mg base CX0 1 Z.a_InvalidEvent___init__ Z.fd_InvalidEvent___init__ P_InvalidEvent___init__ (spExc Z.C_InvalidEvent "InvalidEvent" ["index"])) (G_Program_is_event : FnOk P w K mg base CX0 3 Z.a_Program_is_event Z.fd_Program_is_event P_Program_is_event (spD b 2 (sp_Program_is_event Z.C_Program Z.C_dE))) (G_is_list : FnOk P w K mg base CX0 1 Z.a_is_list Z.fd_is_list P_is_list (spD b 1 (sp_is_list Z.C_dE))) : FnOk P w K mg base CX0 4 Z.a_check_events Z.fd_check_events P_check_events (spD b 2 (calmT (sp_check_events Z.C_Program Z.C_dE Z.C_InvalidEvent))) := DL.FnOk.calm (okX_check_events Z G_InvalidEvent___init__ G_Program_is_event G_is_list) fun _ _ h => h
def sp_Program__moved (C D : Addr) : DSp := fun ds P => ∃ (ms rg sg : List Str) (m : Str) (vs : List Int) (s : Str) (a : Int), ds = [progP C D ms rg sg, stD (m, vs), evD (s, a)] ∧ P (stD (m, vs))
theorem ok_Program__moved (Z : Fc K mg)  : FnOk P w K mg base CX0 1 Z.a_Program__moved Z.fd_Program__moved P_Program__moved (spD b 3 (sp_Program__moved Z.C_Program Z.C_dE)) := by
  refine fn_D Z.F_Program__moved sc_Program__moved fun X outer cdv A s H E hX hr => ?_
  subst hX
  have nd := sc_Program__moved.nd
  refine ⟨_, (ss_cons (s_asg (xv 1) (g_tup' (m := 2) rfl (gs_cons (g_name (i := 3) nd rfl (by first | exact .inl rfl | exact .inr rfl)) (gs_cons (g_name (i := 4) nd rfl (by first | exact .inl rfl | exact .inr rfl)) gs_nil))))
      (ss_cons (s_asg (xv 2) (g_tup' (m := 2) rfl (gs_cons (g_name (i := 5) nd rfl (by first | exact .inl rfl | exact .inr rfl)) (gs_cons (g_name (i := 6) nd rfl (by first | exact .inl rfl | exact .inr rfl)) gs_nil))))
      (ss_cons (s_set (i := 7) nd rfl (.inl rfl) (x_get1 hr.units (x_fld Z.cl_Program Z.na_Program__rule_for (xv 0)) (x_tup (a_cons (xv 3) (a_cons (xv 5) a_nil)))))
      (ss_cons (s_if (t_isN (xv 7)) (ss_one (s_ret (xv 1))) ss_nil)
      (ss_cons (s_disp2 (i := 8) nd rfl (.inr rfl) (x_gstr (by rfl) Z.c_AMOUNT) (xv 6) (x_gstr (by rfl) Z.c_ONE) x_int)
      (ss_cons (s_for rfl (i_zip2 (by rfl) Z.z_zip (a_cons (x_fld Z.cl_Program Z.na_Program__registers (xv 0)) (a_cons (xv 4) a_nil))) (g_tup' (m := 2) rfl (gs_cons (g_name (i := 9) nd rfl (by first | exact .inl rfl | exact .inr rfl)) (gs_cons (g_name (i := 10) nd rfl (by first | exact .inl rfl | exact .inr rfl)) gs_nil))) (ss_one (s_dputK 8 hr.units (xv 10) (xv 9))))
      (ss_cons (s_setM (i := 11) nd rfl (.inr rfl) (m_lend 8 (m_dc rfl nd hr.units (vs := [9]) (i_tup (x_fld Z.cl_Program Z.na_Program__registers (xv 0))) (blkOk_by (own := [("name", 9)]) (N := N_Program__moved) (sc := (defScope s_Program__moved)) (by decide +kernel)) (fun _ => (g_name (i := 9) nd rfl (by first | exact .inl rfl | exact .inr rfl))) (fun _ => ts_nil) (fun _ => (xv 9)) (fun _ => (x_dget hr.units (xv 8) (xv 9))) (by simp))))
      (ss_cons (s_for rfl (i_tup (x_ix (xv 7) x_int)) (g_tup' (m := 2) rfl (gs_cons (g_name (i := 9) nd rfl (by first | exact .inl rfl | exact .inr rfl)) (gs_cons (g_name (i := 12) nd rfl (by first | exact .inl rfl | exact .inr rfl)) gs_nil))) (ss_one (s_dputK 11 hr.units (x_lend 8 (x_sum rfl (by rfl) Z.z_sum (a_cons (x_l (l_lc rfl nd (vs := [13, 14]) (i_tup (xv 12)) (blkOk_by (own := [("source", 13), ("factor", 14)]) (N := N_Program__moved) (sc := (defScope s_Program__moved)) (by decide +kernel)) (fun _ => (g_tup' (m := 2) rfl (gs_cons (g_name (i := 13) nd rfl (by first | exact .inl rfl | exact .inr rfl)) (gs_cons (g_name (i := 14) nd rfl (by first | exact .inl rfl | exact .inr rfl)) gs_nil)))) (fun _ => ts_nil) (fun _ => (x_mul (xv 14) (x_dget hr.units (xv 8) (xv 13)))) (by simp))) a_nil))) (xv 9))))
      (ss_one (s_ret (x_lend 11 (x_tup (a_cons (x_ix (xv 7) x_int) (a_cons (x_tupleOf (by rfl) Z.z_tuple (a_cons (x_l (l_lc rfl nd (vs := [9]) (i_tup (x_fld Z.cl_Program Z.na_Program__registers (xv 0))) (blkOk_by (own := [("name", 9)]) (N := N_Program__moved) (sc := (defScope s_Program__moved)) (by decide +kernel)) (fun _ => (g_name (i := 9) nd rfl (by first | exact .inl rfl | exact .inr rfl))) (fun _ => ts_nil) (fun _ => (x_dget hr.units (xv 11) (xv 9))) (by simp))) a_nil)) a_nil)))))))))))))), fun ds R hl hT => ?_⟩
  obtain ⟨ms, rg, sg, m, vs, s, a, rfl, hR⟩ := hT
  rw [show startD N_Program__moved [progP Z.C_Program Z.C_dE ms rg sg, stD (m, vs), evD (s, a)] = [.val (progP Z.C_Program Z.C_dE ms rg sg), .val (stD (m, vs)), .val (evD (s, a)), .un, .un, .un, .un, .un, .un, .un, .un, .un, .un, .un, .un] from rfl]
  walk_at "go"
  refine ⟨[.inr m, .inr s], rfl, ?_⟩
  walk_at "go"
  exact hR

def sp_Program_run (C D E1 E2 : Addr) : DSpX := fun ds Q R => ∃ (ms rg sg : List Str) (x : Dt) (ys : List Dt), ds = [progP C D ms rg sg, x, .lst ys] ∧ stOk x ∧ (∀ y, y ∈ ys → evOk y) ∧ ys.length ≤ 1000 ∧ (stateD ms rg x = false → R (E1, excF "InvalidState" [] Dt.str [])) ∧
  (stateD ms rg x = true → ∀ (i : Nat) (y : Dt), ys[i]? = some y → eventD sg y = false → (∀ z, z ∈ ys.take i → eventD sg z = true) → R (E2, excF "InvalidEvent" ["index"] Dt.str [.int (i : Nat)])) ∧
  ∀ (m : Str) (vs : List Int), x = stD (m, vs) → m ∈ ms → vs.length = rg.length → (∀ y, y ∈ ys → eventD sg y = true) → Q (stD (m, vs))
theorem okX_Program_run (Z : Fc K mg) (GX_check_events : FnOk P w K mg base (L2.CX P w) 4 Z.a_check_events Z.fd_check_events P_check_events (spDX b 2 (sp_check_events Z.C_Program Z.C_dE Z.C_InvalidEvent))) (GX_check_state : FnOk P w K mg base (L2.CX P w) 3 Z.a_check_state Z.fd_check_state P_check_state (spDX b 2 (sp_check_state Z.C_Program Z.C_dE Z.C_InvalidState))) (G_Program__moved : FnOk P w K mg base CX0 1 Z.a_Program__moved Z.fd_Program__moved P_Program__moved (spD b 3 (sp_Program__moved Z.C_Program Z.C_dE))) : FnOk P w K mg base (L2.CX P w) 5 Z.a_Program_run Z.fd_Program_run P_Program_run (spDX b 3 (sp_Program_run Z.C_Program Z.C_dE Z.C_InvalidState Z.C_InvalidEvent)) := by
  refine fn_DXV (DL.Fun.v Z.F_Program_run) sc_Program_run fun X outer cdv A s H E hX hr F0 H0 R M => ?_
  subst hX
  have nd := sc_Program_run.nd
  refine ⟨_, (ssx_cons (sx_expr (x_callX M (GX_check_state) (hr.mono (by decide)) (by rfl) Z.g_check_state Z.F_check_state.kp Z.b_check_state (a_cons (xv 0) (a_cons (xv 1) a_nil))))
      (ssx_cons (sx_expr (x_callX M (GX_check_events) (hr.mono (by decide)) (by rfl) Z.g_check_events Z.F_check_events.kp Z.b_check_events (a_cons (xv 0) (a_cons (xv 2) a_nil))))
      (ssx_cons (s_for rfl (i_list (xv 2)) (g_name (i := 3) nd rfl (by first | exact .inl rfl | exact .inr rfl)) (ss_one (s_set (i := 1) nd rfl (.inl rfl) (x_meth Z.cl_Program Z.me_Program__moved (G_Program__moved) (hr.mono (by decide)) Z.b_Program__moved (xv 0) (a_cons (xv 1) (a_cons (xv 3) a_nil))))) (hp := M.po)).x
      (ssx_one (s_ret (xv 1)).x)))), fun ds Q hl hT => ?_⟩
  obtain ⟨ms, rg, sg, x, ys, rfl, hx, hok, hyl, hE, hE2, hQ⟩ := hT
  rw [show startD N_Program_run [progP Z.C_Program Z.C_dE ms rg sg, x, .lst ys] = [.val (progP Z.C_Program Z.C_dE ms rg sg), .val x, .val (.lst ys), .un] from rfl]
  walk_at "gs"
  refine ⟨ms, rg, sg, x, rfl, hx, hE, fun hs => ?_⟩
  · obtain ⟨m, vs, rfl, hm, hv⟩ := stateD_ints hs
    walk_at "gs"
    refine ⟨ms, rg, sg, ys, rfl, hok, hyl, fun i y h1 h2 h3 => hE2 hs i y h1 h2 h3, fun hall => ?_⟩
    obtain ⟨es, rfl⟩ := events_are hall
    walk_at "gs"
    refine for_of (as := es) (g := evD) (Iv := fun i γ => ∃ s3 : Sl, γ = [.val (progP Z.C_Program Z.C_dE ms rg sg), .val (stD (m, vs)), .val (.lst (es.map evD)), s3]) rfl ?_ (fun i e γ' hp hI => ?_) (fun γ' hI => ?_)
    · exact ⟨_, rfl⟩
    · obtain ⟨s3, rfl⟩ := hI
      walk_at "gs"
      refine ⟨ms, rg, sg, m, vs, e.1, e.2, rfl, ?_⟩
      walk_at "gs"
      exact ⟨_, rfl⟩
    · obtain ⟨s3, rfl⟩ := hI
      walk_at "gs"
      exact hQ m vs rfl hm hv hall

theorem ok_Program_run (Z : Fc K mg) (GX_check_events : FnOk P w K mg base (L2.CX P w) 4 Z.a_check_events Z.fd_check_events P_check_events (spDX b 2 (sp_check_events Z.C_Program Z.C_dE Z.C_InvalidEvent))) (GX_check_state : FnOk P w K mg base (L2.CX P w) 3 Z.a_check_state Z.fd_check_state P_check_state (spDX b 2 (sp_check_state Z.C_Program Z.C_dE Z.C_InvalidState))) (G_Program__moved : FnOk P w K mg base CX0 1 Z.a_Program__moved Z.fd_Program__moved P_Program__moved (spD b 3 (sp_Program__moved Z.C_Program Z.C_dE))) : FnOk P w K mg base CX0 5 Z.a_Program_run Z.fd_Program_run P_Program_run (spD b 3 (calmT (sp_Program_run Z.C_Program Z.C_dE Z.C_InvalidState Z.C_InvalidEvent))) := DL.FnOk.calm (okX_Program_run Z GX_check_events GX_check_state G_Program__moved) fun _ _ h => h
@[reducible] def oddL : List Dt := [.non, .int 3, .str "", .str "one", .str "amount", .str "A", .str "abcdefg", .str "a b", .bl true, .tup [.str "a"], .lst [.str "a"]]
@[reducible] def sp_bad_name : DSp := fun ds P => ds = [.bag] ∧ ∀ d, d ∈ oddL → P d
theorem ok_bad_name (Z : Fc K mg) (G_of : FnOk P w K mg base CX0 2 Z.a_of Z.fd_of P_of (spD b 2 ofT)) : FnOk P w K mg base CX0 3 Z.a_bad_name Z.fd_bad_name P_bad_name (spD b 1 sp_bad_name) := by
  refine fn_D Z.F_bad_name sc_bad_name fun X outer cdv A s H E hX hr => ?_
  subst hX
  have nd := sc_bad_name.nd
  refine ⟨_, (ss_one (s_ret (x_call (CX := CX0) (G_of) (hr.mono (by decide)) (by rfl) Z.g_of Z.F_of.kp Z.b_of (a_cons (xv 0) (a_cons (x_l (l_lst (a_cons x_non (a_cons x_int (a_cons x_str (a_cons x_str (a_cons x_str (a_cons x_str (a_cons x_str (a_cons x_str (a_cons x_bl (a_cons (x_tup (a_cons x_str a_nil)) (a_cons (x_l (l_lst (a_cons x_str a_nil))) a_nil))))))))))))) a_nil))))), fun ds R hl hT => ?_⟩
  obtain ⟨rfl, hR⟩ := hT
  rw [show startD N_bad_name [.bag] = [.val .bag] from rfl]
  walk_at "gs"
  intro d hd
  exact hR d hd

theorem codes_ne {code : Str} {ns : List Str} (h : (code, ns) ∈ codesT) : decide (code = ("" : Str)) = false := by
  have z : ∀ p, p ∈ codesT → decide (p.1 = ("" : Str)) = false := by decide +kernel
  exact z _ h
theorem code_look {code : Str} {ns : List Str} {zs : List Dt} {C : Addr} (ok : ExcOk K C ns) (h : (code, ns) ∈ codesT) (hz : zs.length = ns.length) : (excF code ns Dt.str zs).lookup ("code" : Str) = some (.str code) := by
  have z : ∀ p, p ∈ codesT → ∀ n, n ∈ p.2 → decide (("code" : Str) = n) = false := by decide +kernel
  have key : ∀ l : List (Str × Dt), (∀ p, p ∈ l → ¬ ("code" : Str) = p.1) → (l ++ [(("code" : Str), Dt.str code)]).lookup ("code" : Str) = some (.str code) := fun l => by
    induction l with
    | nil => intro _; rfl
    | cons p l ih =>
      intro hl
      obtain ⟨a, d⟩ := p
      rw [List.cons_append, List.lookup_cons, beq_eq_false_iff_ne.mpr (hl (a, d) List.mem_cons_self)]
      exact ih fun q hq => hl q (List.mem_cons_of_mem _ hq)
  refine key _ fun p hp e => ?_
  obtain ⟨a, d⟩ := p
  exact of_decide_eq_false (z _ h a (List.of_mem_zip (List.mem_reverse.mp hp)).1) e
theorem ok_fields (Z : Fc K mg)  : FnA P w K mg base 1 Z.a_fields Z.fd_fields P_fields (spD b 1 (fieldsT K codesT)) := by
  refine fn_DA (DL.Fun.v Z.F_fields) sc_fields fun X outer cdv A s H E hX hr => ?_
  subst hX
  have nd := sc_fields.nd
  refine ⟨_, (ss_cons (s_if (t_in (x_efld (xv 0)) (x_l (l_lst (a_cons x_str (a_cons x_str (a_cons x_str (a_cons x_str (a_cons x_str (a_cons x_str a_nil))))))))) (ss_one (s_ret (x_tup (a_cons (x_efld (xv 0)) a_nil)))) ss_nil)
      (ss_cons (s_if (t_in (x_efld (xv 0)) (x_l (l_lst (a_cons x_str (a_cons x_str a_nil))))) (ss_one (s_ret (x_tup (a_cons (x_efld (xv 0)) a_nil)))) ss_nil)
      (ss_cons (s_if (t_in (x_efld (xv 0)) (x_l (l_lst (a_cons x_str (a_cons x_str a_nil))))) (ss_one (s_ret (x_tup (a_cons (x_efld (xv 0)) a_nil)))) ss_nil)
      (ss_cons (s_if (t_eq hr.units (x_efld (xv 0)) x_str) (ss_one (s_ret (x_tup (a_cons (x_efld (xv 0)) (a_cons (x_efld (xv 0)) a_nil))))) ss_nil)
      (ss_cons (s_if (t_eq hr.units (x_efld (xv 0)) x_str) (ss_one (s_ret (x_tup (a_cons (x_efld (xv 0)) a_nil)))) ss_nil)
      (ss_cons (s_if (t_in (x_efld (xv 0)) (x_l (l_lst (a_cons x_str (a_cons x_str (a_cons x_str (a_cons x_str a_nil))))))) (ss_one (s_ret (x_tup a_nil))) ss_nil)
      (ss_one (s_ret (x_tup (a_cons (x_efld (xv 0)) a_nil)))))))))), fun ds R hl hT => ?_⟩
  obtain ⟨C, code, ns, zs, rfl, hx, hc, hz, hR⟩ := hT
  simp only [codesT, List.mem_cons, List.not_mem_nil, or_false, Prod.mk.injEq] at hc
  rcases hc with ⟨rfl, rfl⟩ | ⟨rfl, rfl⟩ | ⟨rfl, rfl⟩ | ⟨rfl, rfl⟩ | ⟨rfl, rfl⟩ | ⟨rfl, rfl⟩ | ⟨rfl, rfl⟩ | ⟨rfl, rfl⟩
  · obtain ⟨z0, rfl⟩ := List.length_eq_one_iff.mp hz
    rw [show startD N_fields [.exc C (excF "DuplicateName" ["name"] Dt.str [z0])] = [.val (.exc C (excF "DuplicateName" ["name"] Dt.str [z0]))] from rfl]
    walk_at "gs"
    refine ⟨hx.xf, hx.cd, _, rfl, ?_⟩
    walk_at "gs"
    rw [show inD (Dt.str (Str.ofString "DuplicateName")) [Dt.str (Str.ofString "InvalidRule"), Dt.str (Str.ofString "DuplicateRule"), Dt.str (Str.ofString "InvalidEvent"), Dt.str (Str.ofString "InvalidEdit"), Dt.str (Str.ofString "InvalidLook"), Dt.str (Str.ofString "InvalidCommand")] = false from by decide +kernel]
    walk_at "gs"
    refine ⟨hx.xf, hx.cd, _, rfl, ?_⟩
    walk_at "gs"
    rw [show inD (Dt.str (Str.ofString "DuplicateName")) [Dt.str (Str.ofString "DuplicateName"), Dt.str (Str.ofString "UnknownName")] = true from by decide +kernel]
    walk_at "gs"
    refine ⟨hx.xf, hx.fd _ (by decide +kernel), _, rfl, ?_⟩
    walk_at "gs"
    exact hR
  · obtain ⟨z0, rfl⟩ := List.length_eq_one_iff.mp hz
    rw [show startD N_fields [.exc C (excF "DuplicateRule" ["index"] Dt.str [z0])] = [.val (.exc C (excF "DuplicateRule" ["index"] Dt.str [z0]))] from rfl]
    walk_at "gs"
    refine ⟨hx.xf, hx.cd, _, rfl, ?_⟩
    walk_at "gs"
    rw [show inD (Dt.str (Str.ofString "DuplicateRule")) [Dt.str (Str.ofString "InvalidRule"), Dt.str (Str.ofString "DuplicateRule"), Dt.str (Str.ofString "InvalidEvent"), Dt.str (Str.ofString "InvalidEdit"), Dt.str (Str.ofString "InvalidLook"), Dt.str (Str.ofString "InvalidCommand")] = true from by decide +kernel]
    walk_at "gs"
    refine ⟨hx.xf, hx.fd _ (by decide +kernel), _, rfl, ?_⟩
    walk_at "gs"
    exact hR
  · obtain ⟨z0, rfl⟩ := List.length_eq_one_iff.mp hz
    rw [show startD N_fields [.exc C (excF "InvalidCount" ["given"] Dt.str [z0])] = [.val (.exc C (excF "InvalidCount" ["given"] Dt.str [z0]))] from rfl]
    walk_at "gs"
    refine ⟨hx.xf, hx.cd, _, rfl, ?_⟩
    walk_at "gs"
    rw [show inD (Dt.str (Str.ofString "InvalidCount")) [Dt.str (Str.ofString "InvalidRule"), Dt.str (Str.ofString "DuplicateRule"), Dt.str (Str.ofString "InvalidEvent"), Dt.str (Str.ofString "InvalidEdit"), Dt.str (Str.ofString "InvalidLook"), Dt.str (Str.ofString "InvalidCommand")] = false from by decide +kernel]
    walk_at "gs"
    refine ⟨hx.xf, hx.cd, _, rfl, ?_⟩
    walk_at "gs"
    rw [show inD (Dt.str (Str.ofString "InvalidCount")) [Dt.str (Str.ofString "DuplicateName"), Dt.str (Str.ofString "UnknownName")] = false from by decide +kernel]
    walk_at "gs"
    refine ⟨hx.xf, hx.cd, _, rfl, ?_⟩
    walk_at "gs"
    rw [show inD (Dt.str (Str.ofString "InvalidCount")) [Dt.str (Str.ofString "TooWide"), Dt.str (Str.ofString "Full")] = false from by decide +kernel]
    walk_at "gs"
    refine ⟨hx.xf, hx.cd, _, rfl, ?_⟩
    walk_at "gs"
    rw [show decide (Str.ofString "InvalidCount" = Str.ofString "InvalidRange") = false from by decide +kernel]
    walk_at "gs"
    refine ⟨hx.xf, hx.cd, _, rfl, ?_⟩
    walk_at "gs"
    rw [show decide (Str.ofString "InvalidCount" = Str.ofString "InvalidText") = false from by decide +kernel]
    walk_at "gs"
    refine ⟨hx.xf, hx.cd, _, rfl, ?_⟩
    walk_at "gs"
    rw [show inD (Dt.str (Str.ofString "InvalidCount")) [Dt.str (Str.ofString "InvalidState"), Dt.str (Str.ofString "InvalidRow"), Dt.str (Str.ofString "SignsDiffer"), Dt.str (Str.ofString "NothingLeft")] = false from by decide +kernel]
    walk_at "gs"
    refine ⟨hx.xf, hx.fd _ (by decide +kernel), _, rfl, ?_⟩
    walk_at "gs"
    exact hR
  · obtain ⟨z0, rfl⟩ := List.length_eq_one_iff.mp hz
    rw [show startD N_fields [.exc C (excF "InvalidEvent" ["index"] Dt.str [z0])] = [.val (.exc C (excF "InvalidEvent" ["index"] Dt.str [z0]))] from rfl]
    walk_at "gs"
    refine ⟨hx.xf, hx.cd, _, rfl, ?_⟩
    walk_at "gs"
    rw [show inD (Dt.str (Str.ofString "InvalidEvent")) [Dt.str (Str.ofString "InvalidRule"), Dt.str (Str.ofString "DuplicateRule"), Dt.str (Str.ofString "InvalidEvent"), Dt.str (Str.ofString "InvalidEdit"), Dt.str (Str.ofString "InvalidLook"), Dt.str (Str.ofString "InvalidCommand")] = true from by decide +kernel]
    walk_at "gs"
    refine ⟨hx.xf, hx.fd _ (by decide +kernel), _, rfl, ?_⟩
    walk_at "gs"
    exact hR
  · obtain ⟨z0, rfl⟩ := List.length_eq_one_iff.mp hz
    rw [show startD N_fields [.exc C (excF "InvalidName" ["given"] Dt.str [z0])] = [.val (.exc C (excF "InvalidName" ["given"] Dt.str [z0]))] from rfl]
    walk_at "gs"
    refine ⟨hx.xf, hx.cd, _, rfl, ?_⟩
    walk_at "gs"
    rw [show inD (Dt.str (Str.ofString "InvalidName")) [Dt.str (Str.ofString "InvalidRule"), Dt.str (Str.ofString "DuplicateRule"), Dt.str (Str.ofString "InvalidEvent"), Dt.str (Str.ofString "InvalidEdit"), Dt.str (Str.ofString "InvalidLook"), Dt.str (Str.ofString "InvalidCommand")] = false from by decide +kernel]
    walk_at "gs"
    refine ⟨hx.xf, hx.cd, _, rfl, ?_⟩
    walk_at "gs"
    rw [show inD (Dt.str (Str.ofString "InvalidName")) [Dt.str (Str.ofString "DuplicateName"), Dt.str (Str.ofString "UnknownName")] = false from by decide +kernel]
    walk_at "gs"
    refine ⟨hx.xf, hx.cd, _, rfl, ?_⟩
    walk_at "gs"
    rw [show inD (Dt.str (Str.ofString "InvalidName")) [Dt.str (Str.ofString "TooWide"), Dt.str (Str.ofString "Full")] = false from by decide +kernel]
    walk_at "gs"
    refine ⟨hx.xf, hx.cd, _, rfl, ?_⟩
    walk_at "gs"
    rw [show decide (Str.ofString "InvalidName" = Str.ofString "InvalidRange") = false from by decide +kernel]
    walk_at "gs"
    refine ⟨hx.xf, hx.cd, _, rfl, ?_⟩
    walk_at "gs"
    rw [show decide (Str.ofString "InvalidName" = Str.ofString "InvalidText") = false from by decide +kernel]
    walk_at "gs"
    refine ⟨hx.xf, hx.cd, _, rfl, ?_⟩
    walk_at "gs"
    rw [show inD (Dt.str (Str.ofString "InvalidName")) [Dt.str (Str.ofString "InvalidState"), Dt.str (Str.ofString "InvalidRow"), Dt.str (Str.ofString "SignsDiffer"), Dt.str (Str.ofString "NothingLeft")] = false from by decide +kernel]
    walk_at "gs"
    refine ⟨hx.xf, hx.fd _ (by decide +kernel), _, rfl, ?_⟩
    walk_at "gs"
    exact hR
  · obtain ⟨z0, rfl⟩ := List.length_eq_one_iff.mp hz
    rw [show startD N_fields [.exc C (excF "InvalidRule" ["index"] Dt.str [z0])] = [.val (.exc C (excF "InvalidRule" ["index"] Dt.str [z0]))] from rfl]
    walk_at "gs"
    refine ⟨hx.xf, hx.cd, _, rfl, ?_⟩
    walk_at "gs"
    rw [show inD (Dt.str (Str.ofString "InvalidRule")) [Dt.str (Str.ofString "InvalidRule"), Dt.str (Str.ofString "DuplicateRule"), Dt.str (Str.ofString "InvalidEvent"), Dt.str (Str.ofString "InvalidEdit"), Dt.str (Str.ofString "InvalidLook"), Dt.str (Str.ofString "InvalidCommand")] = true from by decide +kernel]
    walk_at "gs"
    refine ⟨hx.xf, hx.fd _ (by decide +kernel), _, rfl, ?_⟩
    walk_at "gs"
    exact hR
  · obtain rfl := List.length_eq_zero_iff.mp hz
    rw [show startD N_fields [.exc C (excF "InvalidState" [] Dt.str [])] = [.val (.exc C (excF "InvalidState" [] Dt.str []))] from rfl]
    walk_at "gs"
    refine ⟨hx.xf, hx.cd, _, rfl, ?_⟩
    walk_at "gs"
    rw [show inD (Dt.str (Str.ofString "InvalidState")) [Dt.str (Str.ofString "InvalidRule"), Dt.str (Str.ofString "DuplicateRule"), Dt.str (Str.ofString "InvalidEvent"), Dt.str (Str.ofString "InvalidEdit"), Dt.str (Str.ofString "InvalidLook"), Dt.str (Str.ofString "InvalidCommand")] = false from by decide +kernel]
    walk_at "gs"
    refine ⟨hx.xf, hx.cd, _, rfl, ?_⟩
    walk_at "gs"
    rw [show inD (Dt.str (Str.ofString "InvalidState")) [Dt.str (Str.ofString "DuplicateName"), Dt.str (Str.ofString "UnknownName")] = false from by decide +kernel]
    walk_at "gs"
    refine ⟨hx.xf, hx.cd, _, rfl, ?_⟩
    walk_at "gs"
    rw [show inD (Dt.str (Str.ofString "InvalidState")) [Dt.str (Str.ofString "TooWide"), Dt.str (Str.ofString "Full")] = false from by decide +kernel]
    walk_at "gs"
    refine ⟨hx.xf, hx.cd, _, rfl, ?_⟩
    walk_at "gs"
    rw [show decide (Str.ofString "InvalidState" = Str.ofString "InvalidRange") = false from by decide +kernel]
    walk_at "gs"
    refine ⟨hx.xf, hx.cd, _, rfl, ?_⟩
    walk_at "gs"
    rw [show decide (Str.ofString "InvalidState" = Str.ofString "InvalidText") = false from by decide +kernel]
    walk_at "gs"
    refine ⟨hx.xf, hx.cd, _, rfl, ?_⟩
    walk_at "gs"
    rw [show inD (Dt.str (Str.ofString "InvalidState")) [Dt.str (Str.ofString "InvalidState"), Dt.str (Str.ofString "InvalidRow"), Dt.str (Str.ofString "SignsDiffer"), Dt.str (Str.ofString "NothingLeft")] = true from by decide +kernel]
    walk_at "gs"
    exact hR
  · obtain ⟨z0, rfl⟩ := List.length_eq_one_iff.mp hz
    rw [show startD N_fields [.exc C (excF "TooWide" ["most"] Dt.str [z0])] = [.val (.exc C (excF "TooWide" ["most"] Dt.str [z0]))] from rfl]
    walk_at "gs"
    refine ⟨hx.xf, hx.cd, _, rfl, ?_⟩
    walk_at "gs"
    rw [show inD (Dt.str (Str.ofString "TooWide")) [Dt.str (Str.ofString "InvalidRule"), Dt.str (Str.ofString "DuplicateRule"), Dt.str (Str.ofString "InvalidEvent"), Dt.str (Str.ofString "InvalidEdit"), Dt.str (Str.ofString "InvalidLook"), Dt.str (Str.ofString "InvalidCommand")] = false from by decide +kernel]
    walk_at "gs"
    refine ⟨hx.xf, hx.cd, _, rfl, ?_⟩
    walk_at "gs"
    rw [show inD (Dt.str (Str.ofString "TooWide")) [Dt.str (Str.ofString "DuplicateName"), Dt.str (Str.ofString "UnknownName")] = false from by decide +kernel]
    walk_at "gs"
    refine ⟨hx.xf, hx.cd, _, rfl, ?_⟩
    walk_at "gs"
    rw [show inD (Dt.str (Str.ofString "TooWide")) [Dt.str (Str.ofString "TooWide"), Dt.str (Str.ofString "Full")] = true from by decide +kernel]
    walk_at "gs"
    refine ⟨hx.xf, hx.fd _ (by decide +kernel), _, rfl, ?_⟩
    walk_at "gs"
    exact hR

theorem ok_got (Z : Fc K mg) (G_fields : FnA P w K mg base 1 Z.a_fields Z.fd_fields P_fields (spD b 1 (fieldsT K codesT))) : FnOk P w K mg base CX0 10 Z.a_got Z.fd_got P_got (spD b 1 (gotT P w K mg base b 9 (xsT Z) codesT)) := by
  refine fn_D Z.F_got sc_got fun X outer cdv A s H E hX hr => ?_
  subst hX
  have nd := sc_got.nd
  refine ⟨_, (ss_one (s_try3 (Tb := fun R => sRet (dTup (aCons (dC (.str ("" : Str))) (aCons (dDeed P w K mg base b 9 0 R) aNil)))) (Ts := sRet (dTup (aCons (dEfld K "code" (dVar 1)) (aCons (dCall 1 (fieldsT K codesT) (aCons (dVar 1) aNil)) aNil)))) rfl rfl rfl nd (i := 1) rfl rfl (by rfl) Z.mg_TwinError (by rfl) Z.mg_Missing (by rfl) Z.mg_NothingLeft (by decide) (by decide) (by decide) (fun pn xe F0 H0 R M => (ssx_one (sx_ret (x_tupX (ax_cons (x_str).x (ax_cons (x_deed (k := 9) M (DL.Room.tr (hr.mono (by decide))) (i := 0) rfl (.inl rfl)) (a_nil).x)))))) (fun xa pn => (ss_one (s_ret (x_tup (a_cons (x_efld (xv 1)) (a_cons (x_callA (G_fields) ((DL.RoomH.suite hr).less (by decide)) (by rfl) Z.g_fields Z.F_fields.kp Z.b_fields (a_cons (xv 1) a_nil)) a_nil)))))))), fun ds R hl hT => ?_⟩
  obtain ⟨L, cl, rfl, hC⟩ := hT
  rw [show startD N_got [.clo L cl] = [.val (.clo L cl), .un] from rfl]
  refine ⟨rfl, rfl, ?_⟩
  refine hC.mono (fun d hd => ⟨Nat.le_of_ble_eq_true rfl, hd⟩) fun x hx => ?_
  obtain ⟨hm, code, ns, zs, e, hok, hc, hz, hz2, hq⟩ := hx
  obtain ⟨C, fs⟩ := x
  obtain rfl : fs = _ := e
  refine ⟨hm, ?_⟩
  refine ⟨hok.xf, hok.cd, .str code, code_look hok hc hz, ?_⟩
  refine ⟨rfl, C, code, ns, zs, rfl, hok, hc, hz, ?_⟩
  exact ⟨Nat.le_of_ble_eq_true rfl, hq⟩

theorem ok_why (Z : Fc K mg) (G_got : FnOk P w K mg base CX0 10 Z.a_got Z.fd_got P_got (spD b 1 (gotT P w K mg base b 9 (xsT Z) codesT))) : FnOk P w K mg base CX0 11 Z.a_why Z.fd_why P_why (spD b 1 (whyT P w K mg base b 9 (xsT Z) codesT)) := by
  refine fn_D Z.F_why sc_why fun X outer cdv A s H E hX hr => ?_
  subst hX
  have nd := sc_why.nd
  refine ⟨_, (ss_cons (s_set (i := 1) nd rfl (.inl rfl) (x_call (CX := CX0) (G_got) (hr.mono (by decide)) (by rfl) Z.g_got Z.F_got.kp Z.b_got (a_cons (xv 0) a_nil)))
      (ss_one (s_ret (x_if (t_ne hr.units (x_ix (xv 1) x_int) x_str) (xv 1) (x_tup (a_cons x_str (a_cons x_non a_nil))))))), fun ds R hl hT => ?_⟩
  obtain ⟨L, cl, rfl, hC⟩ := hT
  rw [show startD N_why [.clo L cl] = [.val (.clo L cl), .un] from rfl]
  walk_at "go"
  refine ⟨L, cl, rfl, hC.mono (fun d hd => ?_) fun x hx => ?_⟩
  · walk_at "go"
    rw [show decide (("" : Str) = ("" : Str)) = true from rfl]
    walk_at "go"
    exact hd
  · obtain ⟨hm, code, ns, zs, e, hok, hc, hz, hz2, hq⟩ := hx
    refine ⟨hm, code, ns, zs, e, hok, hc, hz, hz2, ?_⟩
    have hne : decide (code = ("" : Str)) = false := codes_ne hc
    walk_at "go"
    rw [show decide (code = Str.ofString "") = false from hne]
    walk_at "go"
    exact hq

theorem ok_whys (Z : Fc K mg) (G_why : FnOk P w K mg base CX0 11 Z.a_why Z.fd_why P_why (spD b 1 (whyT P w K mg base b 9 (xsT Z) codesT))) : FnOk P w K mg base CX0 12 Z.a_whys Z.fd_whys P_whys (spD b 1 (whysT P w K mg base b 9 (xsT Z) codesT)) := by
  refine fn_D Z.F_whys sc_whys fun X outer cdv A s H E hX hr => ?_
  subst hX
  have nd := sc_whys.nd
  refine ⟨_, (ss_one (s_ret (x_l (l_lc rfl nd (vs := [1]) (i_list (xv 0)) (blkOk_by (own := [("_law_deed", 1)]) (N := N_whys) (sc := (defScope s_whys)) (by decide +kernel)) (fun _ => (g_name (i := 1) nd rfl (by first | exact .inl rfl | exact .inr rfl))) (fun _ => ts_nil) (fun _ => (x_call (CX := CX0) (G_why) (hr.mono (by decide)) (by rfl) Z.g_why Z.F_why.kp Z.b_why (a_cons (xv 1) a_nil))) (by simp))))), fun ds R hl hT => ?_⟩
  obtain ⟨items, rfl, hl, hw, hR⟩ := hT
  rw [show startD N_whys [.lst (items.map fun p => .clo p.1.1 p.1.2)] = [.val (.lst (items.map fun p => .clo p.1.1 p.1.2)), .un] from rfl]
  walk_at "go"
  refine ⟨by rw [List.length_map]; omega, ?_⟩
  refine wd_map (as := items) (g := fun p => .clo p.1.1 p.1.2) (f := fun p => p.2) rfl (fun i p hp Q hQ => ?_) ?_
  · walk_at "go"
    refine why_mono (fun d hd => ?_) (hw p (List.mem_of_getElem? hp))
    subst hd
    exact hQ
  exact hR

theorem nameS_len {y : Str} (h : nameS y = true) : y.length ≤ 6 := by
  unfold nameS at h
  simp only [Bool.and_eq_true] at h
  exact of_decide_eq_true h.1.1.1.2
theorem cn_good {D E : Addr} {ns : List Str} {s0 : Dt} {Q : Dt → Prop} {R : Xd → Prop} (hs : sqOf s0 ns) (hn : ∀ y, y ∈ ns → nameS y = true) (q : Q .non) : sp_check_names D E [s0] Q R := by
  refine ⟨s0, rfl, ?_, ?_, fun xs hx => ?_⟩
  · rcases hs with rfl | rfl <;> rfl
  · intro h
    rcases hs with rfl | rfl <;> cases h
  · have e : xs = ns.map Dt.str := by
      rcases hs with rfl | rfl <;> rcases hx with h | h <;> cases h <;> rfl
    subst e
    have hall : ∀ y, y ∈ ns.map Dt.str → nameD y = true := fun y hy => by
      obtain ⟨z, hz, rfl⟩ := List.mem_map.mp hy
      exact hn z hz
    refine ⟨fun y hy => ?_, fun i y hy hf _ => absurd ((hall y (List.mem_of_getElem? hy)).symm.trans hf) (by decide), fun _ => q⟩
    obtain ⟨z, hz, rfl⟩ := List.mem_map.mp hy
    refine ⟨rfl, fun w e => ?_⟩
    cases e
    exact Nat.le_trans (nameS_len (hn z hz)) (by decide)
theorem cd_good {E : Addr} {ns : List Str} {s0 : Dt} {Q : Dt → Prop} {R : Xd → Prop} (hs : sqOf s0 ns) (hd : ns.Nodup) (q : Q .non) : sp_check_different E [s0] Q R :=
  ⟨ns, s0, rfl, hs, fun i x hx hm _ => absurd hm (not_in_take hd hx), fun _ => q⟩
theorem cc_good {E : Addr} {ns : List Str} {s0 : Dt} {lo hi : Int} {Q : Dt → Prop} {R : Xd → Prop} (hs : sqOf s0 ns) (h1 : lo ≤ (ns.length : Int)) (h2 : (ns.length : Int) ≤ hi) (q : Q .non) : sp_check_count E [s0, .int lo, .int hi] Q R :=
  ⟨ns.map Dt.str, s0, lo, hi, rfl, hs, fun h => absurd ⟨by rw [List.length_map]; exact h1, by rw [List.length_map]; exact h2⟩ h, fun _ _ => q⟩
theorem on_name : ∀ y, y ∈ (["on"] : List Str) → nameS y = true := fun y hy => by
  rw [List.mem_singleton.mp hy]
  decide +kernel
theorem idle_go {C D E1 E2 E3 E4 E5 E6 : Addr} {xs : List Dt} {Q : Dt → Prop} {R : Xd → Prop} (h : sp_check_names D E1 [.tup xs] (fun _ => sp_check_different E2 [.tup xs] (fun _ => sp_check_count E3 [.tup xs, .int 1, .int 6] (fun _ => ∃ sg : List Str, xs = sg.map Dt.str ∧ Q (progP C D ["on"] [] sg)) R) R) R) : sp_Program_idle C D E1 E2 E3 E4 E5 E6 [.ptr C, .tup xs] Q R := by
  refine ⟨_, rfl, _, _, _, _, rfl, cn_good (ns := ["on"]) (.inl rfl) on_name (cn_good (ns := []) (.inl rfl) (fun _ h => absurd h List.not_mem_nil) (cn_mono h fun _ h => cd_good (ns := ["on"]) (.inl rfl) (List.nodup_cons.mpr ⟨List.not_mem_nil, List.nodup_nil⟩) (cd_good (ns := []) (.inl rfl) List.nodup_nil (cd_mono h fun _ h => cc_good (ns := ["on"]) (.inl rfl) (by decide) (by decide) (cc_good (ns := []) (.inl rfl) (by decide) (by decide) (cc_mono h fun _ h => ?_))))))⟩
  obtain ⟨sg, rfl, q⟩ := h
  exact ⟨["on"], [], sg, .inl rfl, .inl rfl, .inr rfl, by decide, by decide, fun h => absurd h (by decide), fun _ => ⟨_, _, _, rfl, rfl, q⟩⟩
theorem idle_good {C D E1 E2 E3 E4 E5 E6 : Addr} {sg : List Str} {Q : Dt → Prop} {R : Xd → Prop} (h1 : 1 ≤ sg.length) (h6 : sg.length ≤ 6) (hn : ∀ y, y ∈ sg → nameS y = true) (hd : sg.Nodup) (q : Q (progP C D ["on"] [] sg)) : sp_Program_idle C D E1 E2 E3 E4 E5 E6 [.ptr C, .tup (sg.map Dt.str)] Q R :=
  idle_go (cn_good (ns := sg) (.inr rfl) hn (cd_good (ns := sg) (.inr rfl) hd (cc_good (ns := sg) (.inr rfl) (by omega) (by omega) ⟨sg, rfl, q⟩)))
theorem idle_count {C D E1 E2 E3 E4 E5 E6 : Addr} {sg : List Str} {Q : Dt → Prop} {R : Xd → Prop} (h : sg.length = 0 ∨ 6 < sg.length) (hn : ∀ y, y ∈ sg → nameS y = true) (hd : sg.Nodup) (q : R (E3, excF "InvalidCount" ["given"] Dt.str [.int (sg.length : Nat)])) : sp_Program_idle C D E1 E2 E3 E4 E5 E6 [.ptr C, .tup (sg.map Dt.str)] Q R :=
  idle_go (cn_good (ns := sg) (.inr rfl) hn (cd_good (ns := sg) (.inr rfl) hd ⟨sg.map Dt.str, _, 1, 6, rfl, .inr rfl, fun _ => by rw [List.length_map]; exact q, fun a c => by rw [List.length_map] at a c; omega⟩))
theorem idle_twice {C D E1 E2 E3 E4 E5 E6 : Addr} {n : Str} {Q : Dt → Prop} {R : Xd → Prop} (hn : nameS n = true) (q : R (E2, excF "DuplicateName" ["name"] Dt.str [.str n])) : sp_Program_idle C D E1 E2 E3 E4 E5 E6 [.ptr C, .tup [.str n, .str n]] Q R := by
  refine idle_go (cn_good (ns := [n, n]) (.inr rfl) (fun y hy => ?_) ⟨[n, n], _, rfl, .inr rfl, fun i x hx hm _ => ?_, fun h => ?_⟩)
  · simp only [List.mem_cons, List.not_mem_nil, or_false, or_self] at hy
    rw [hy]; exact hn
  · have h := List.mem_of_getElem? hx
    simp only [List.mem_cons, List.not_mem_nil, or_false, or_self] at h
    rw [h]; exact q
  · exact absurd List.mem_cons_self (List.nodup_cons.mp h).1
/-- what a value that is no name is like -/
structure BadN (d : Dt) : Prop where
  k : known d = true
  n : nameD d = false
  l : ∀ z, d = .str z → z.length ≤ 1000
  e : noEx d = true
  o : okS d = true
  d : dep d ≤ 2
theorem idle_bad {C D E1 E2 E3 E4 E5 E6 : Addr} {n : Str} {o : Dt} {Q : Dt → Prop} {R : Xd → Prop} (hn : nameS n = true) (ho : BadN o) (q : R (E1, excF "InvalidName" ["given"] Dt.str [o])) : sp_Program_idle C D E1 E2 E3 E4 E5 E6 [.ptr C, .tup [.str n, o]] Q R := by
  refine idle_go ⟨_, rfl, rfl, (fun h => by cases h), fun xs hx => ?_⟩
  obtain rfl : xs = [.str n, o] := by rcases hx with h | h <;> cases h <;> rfl
  refine ⟨fun y hy => ?_, fun i y hy hf _ => ?_, fun h => absurd ((h o (.tail _ (.head _))).symm.trans ho.n) (by decide)⟩
  · simp only [List.mem_cons, List.not_mem_nil, or_false] at hy
    rcases hy with rfl | rfl
    · exact ⟨rfl, fun w e => by cases e; exact Nat.le_trans (nameS_len hn) (by decide)⟩
    · exact ⟨ho.k, ho.l⟩
  · have h := List.mem_of_getElem? hy
    simp only [List.mem_cons, List.not_mem_nil, or_false] at h
    rcases h with rfl | rfl
    · exact absurd (hn.symm.trans hf) (by decide)
    · exact q
theorem bad_ok {d : Dt} (h : d ∈ oddL) : BadN d := by
  simp only [oddL, List.mem_cons, List.not_mem_nil, or_false] at h
  rcases h with rfl | rfl | rfl | rfl | rfl | rfl | rfl | rfl | rfl | rfl | rfl <;> refine ⟨rfl, by first | rfl | decide +kernel, fun z e => by first | (cases e; done) | (cases e; decide +kernel), rfl, by first | rfl | decide +kernel, by first | decide +kernel | exact Nat.le_of_ble_eq_true rfl⟩
theorem lamB0 : LamB lamL0 := ⟨"_law_b", by decide +kernel, fun κ pm ctv c' T => ⟨_, rfl, fun u => rfl⟩⟩
def sp_lam0 (C D E1 E2 E3 E4 E5 E6 : Addr) : DSpX := fun ds Q R => ∃ (o : Dt) (n : Str) (tl : List Str), ds = [o, .lst ((n :: tl).map Dt.str)] ∧ nameS n = true ∧ BadN o ∧ R (E1, excF "InvalidName" ["given"] Dt.str [o])
theorem lamN0 : LamN lamL0 ["_law_odd", "_law_names_here"] := lamN_by (by decide +kernel)
theorem lamok0 (Z : Fc K mg) (GX_Program_idle : FnR P w K mg base (L2.CX P w) 8 Z.a_Program_idle (spSX b 1 (sp_Program_idle Z.C_Program Z.C_dE Z.C_InvalidName Z.C_DuplicateName Z.C_InvalidCount Z.C_TooWide Z.C_InvalidRule Z.C_DuplicateRule))) : CloOk P w K mg base b 9 lamL0 (fun ds Q R => ds.map (·.1) = (["_law_odd", "_law_names_here"] : List Str) ∧ noExF ds = true ∧ sp_lam0 Z.C_Program Z.C_dE Z.C_InvalidName Z.C_DuplicateName Z.C_InvalidCount Z.C_TooWide Z.C_InvalidRule Z.C_DuplicateRule (ds.map (·.2)) Q R) := by
  refine clo_ok (T := sp_lam0 Z.C_Program Z.C_dE Z.C_InvalidName Z.C_DuplicateName Z.C_InvalidCount Z.C_TooWide Z.C_InvalidRule Z.C_DuplicateRule) lamN0 lamB0 fun Y κ A outer s H E f c' hY hr F0 H0 R M => ?_
  subst hY
  refine ⟨_, (x_cmX M Z.cr_Program Z.cm_Program_idle (GX_Program_idle) (hr.mono (by decide)) (by rfl) Z.mg_Program (a_cons (x_ix (xv 1) x_int) (a_cons (xv 0) a_nil))), fun ds Q hl hT => ?_⟩
  obtain ⟨o, n, tl, rfl, hn, ho, hR⟩ := hT
  rw [show List.map Sl.val [o, Dt.lst (List.map Dt.str (n :: tl))] = [.val o, .val (.lst ((n :: tl).map Dt.str))] from rfl]
  walk_at "gs"
  refine ⟨Dt.str n, atI_nat (j := 0) rfl, ?_⟩
  walk_at "gs"
  exact idle_bad hn ho hR

theorem lamB1 : LamB lamL1 := ⟨"_law_a", by decide +kernel, fun κ pm ctv c' T => ⟨_, rfl, fun u => rfl⟩⟩
def sp_lam1 (C D E1 E2 E3 E4 E5 E6 : Addr) : DSpX := fun ds Q R => ∃ (n : Str) (tl : List Str), ds = [.lst ((n :: tl).map Dt.str)] ∧ nameS n = true ∧ R (E2, excF "DuplicateName" ["name"] Dt.str [.str n])
theorem lamN1 : LamN lamL1 ["_law_names_here"] := lamN_by (by decide +kernel)
theorem lamok1 (Z : Fc K mg) (GX_Program_idle : FnR P w K mg base (L2.CX P w) 8 Z.a_Program_idle (spSX b 1 (sp_Program_idle Z.C_Program Z.C_dE Z.C_InvalidName Z.C_DuplicateName Z.C_InvalidCount Z.C_TooWide Z.C_InvalidRule Z.C_DuplicateRule))) : CloOk P w K mg base b 9 lamL1 (fun ds Q R => ds.map (·.1) = (["_law_names_here"] : List Str) ∧ noExF ds = true ∧ sp_lam1 Z.C_Program Z.C_dE Z.C_InvalidName Z.C_DuplicateName Z.C_InvalidCount Z.C_TooWide Z.C_InvalidRule Z.C_DuplicateRule (ds.map (·.2)) Q R) := by
  refine clo_ok (T := sp_lam1 Z.C_Program Z.C_dE Z.C_InvalidName Z.C_DuplicateName Z.C_InvalidCount Z.C_TooWide Z.C_InvalidRule Z.C_DuplicateRule) lamN1 lamB1 fun Y κ A outer s H E f c' hY hr F0 H0 R M => ?_
  subst hY
  refine ⟨_, (x_cmX M Z.cr_Program Z.cm_Program_idle (GX_Program_idle) (hr.mono (by decide)) (by rfl) Z.mg_Program (a_cons (x_ix (xv 0) x_int) (a_cons (x_ix (xv 0) x_int) a_nil))), fun ds Q hl hT => ?_⟩
  obtain ⟨n, tl, rfl, hn, hR⟩ := hT
  rw [show List.map Sl.val [Dt.lst (List.map Dt.str (n :: tl))] = [.val (.lst ((n :: tl).map Dt.str))] from rfl]
  walk_at "gs"
  refine ⟨.str n, atI_nat (j := 0) rfl, ?_⟩
  walk_at "gs"
  refine ⟨.str n, atI_nat (j := 0) rfl, ?_⟩
  walk_at "gs"
  exact idle_twice hn hR

def sp_lam2 (C D E1 E2 E3 E4 E5 E6 : Addr) : DSpX := fun ds Q R => ds = [] ∧ R (E3, excF "InvalidCount" ["given"] Dt.str [.int ((0 : Nat) : Int)])
theorem lamN2 : LamN lamL2 [] := lamN_by (by decide +kernel)
theorem lamok2 (Z : Fc K mg) (GX_Program_idle : FnR P w K mg base (L2.CX P w) 8 Z.a_Program_idle (spSX b 1 (sp_Program_idle Z.C_Program Z.C_dE Z.C_InvalidName Z.C_DuplicateName Z.C_InvalidCount Z.C_TooWide Z.C_InvalidRule Z.C_DuplicateRule))) : CloOk P w K mg base b 9 lamL2 (fun ds Q R => ds.map (·.1) = ([] : List Str) ∧ noExF ds = true ∧ sp_lam2 Z.C_Program Z.C_dE Z.C_InvalidName Z.C_DuplicateName Z.C_InvalidCount Z.C_TooWide Z.C_InvalidRule Z.C_DuplicateRule (ds.map (·.2)) Q R) := by
  refine clo_ok (T := sp_lam2 Z.C_Program Z.C_dE Z.C_InvalidName Z.C_DuplicateName Z.C_InvalidCount Z.C_TooWide Z.C_InvalidRule Z.C_DuplicateRule) lamN2 (fun _ _ _ _ => rfl) fun Y κ A outer s H E f c' hY hr F0 H0 R M => ?_
  subst hY
  refine ⟨_, (x_cmX0 M Z.cr_Program Z.cm_Program_idle (GX_Program_idle) (hr.mono (by decide)) (by rfl) Z.mg_Program), fun ds Q hl hT => ?_⟩
  obtain ⟨rfl, hR⟩ := hT
  walk_at "gs"
  exact idle_count (sg := []) (.inl rfl) (fun _ h => absurd h List.not_mem_nil) List.nodup_nil hR

theorem lamB3 : LamB lamL3 := ⟨"_law_c", by decide +kernel, fun κ pm ctv c' T => ⟨_, rfl, fun u => rfl⟩⟩
def sp_lam3 (C D E1 E2 E3 E4 E5 E6 : Addr) : DSpX := fun ds Q R => ∃ (n0 n1 n2 n3 n4 n5 n6 n7 : Str), ds = [.lst ([n0, n1, n2, n3, n4, n5, n6, n7].map Dt.str)] ∧ [n0, n1, n2, n3, n4, n5, n6].Nodup ∧ (∀ y, y ∈ [n0, n1, n2, n3, n4, n5, n6] → nameS y = true) ∧ R (E3, excF "InvalidCount" ["given"] Dt.str [.int ((7 : Nat) : Int)])
theorem lamN3 : LamN lamL3 ["_law_names_here"] := lamN_by (by decide +kernel)
theorem lamok3 (Z : Fc K mg) (GX_Program_idle : FnR P w K mg base (L2.CX P w) 8 Z.a_Program_idle (spSX b 1 (sp_Program_idle Z.C_Program Z.C_dE Z.C_InvalidName Z.C_DuplicateName Z.C_InvalidCount Z.C_TooWide Z.C_InvalidRule Z.C_DuplicateRule))) : CloOk P w K mg base b 9 lamL3 (fun ds Q R => ds.map (·.1) = (["_law_names_here"] : List Str) ∧ noExF ds = true ∧ sp_lam3 Z.C_Program Z.C_dE Z.C_InvalidName Z.C_DuplicateName Z.C_InvalidCount Z.C_TooWide Z.C_InvalidRule Z.C_DuplicateRule (ds.map (·.2)) Q R) := by
  refine clo_ok (T := sp_lam3 Z.C_Program Z.C_dE Z.C_InvalidName Z.C_DuplicateName Z.C_InvalidCount Z.C_TooWide Z.C_InvalidRule Z.C_DuplicateRule) lamN3 lamB3 fun Y κ A outer s H E f c' hY hr F0 H0 R M => ?_
  subst hY
  refine ⟨_, (x_cmX M Z.cr_Program Z.cm_Program_idle (GX_Program_idle) (hr.mono (by decide)) (by rfl) Z.mg_Program (a_cons (x_ix (xv 0) x_int) (a_cons (x_ix (xv 0) x_int) (a_cons (x_ix (xv 0) x_int) (a_cons (x_ix (xv 0) x_int) (a_cons (x_ix (xv 0) x_int) (a_cons (x_ix (xv 0) x_int) (a_cons (x_ix (xv 0) x_int) a_nil)))))))), fun ds Q hl hT => ?_⟩
  obtain ⟨n0, n1, n2, n3, n4, n5, n6, n7, rfl, hd, hn, hR⟩ := hT
  rw [show List.map Sl.val [Dt.lst (List.map Dt.str [n0, n1, n2, n3, n4, n5, n6, n7])] = [.val (.lst [.str n0, .str n1, .str n2, .str n3, .str n4, .str n5, .str n6, .str n7])] from rfl]
  walk_at "gs"
  exact idle_count (sg := [n0, n1, n2, n3, n4, n5, n6]) (.inr (Nat.le_of_ble_eq_true rfl)) hn hd hR

/-- the law -/
def spLaw (K : PySem.W.Frag) (PL : Addr) : Sp := fun vs H Q _ => ∃ (a : Addr) (ns : List Int), vs = [.ref a] ∧ SqL K H a (ns.map V.int) ∧ ns.length ≤ 63 ∧ H PL = some (.tbl #[]) ∧ ∀ H', Q (.bl true) H'
set_option maxHeartbeats 40000000 in
theorem ok_law (Z : Fc K mg) {f cL PL : Addr} {oc kV doc pm ct : Value} {od an : Option Addr} {osl : Array (Option Value)} (lk : K.lookup f = some ⟨oc, od, .func (PySem.W.fnOf "law" "law" (defArgs s_law) (defBody s_law) (defScope s_law) .none kV doc pm an (.ref cL) ct), osl⟩) (hcd : PySem.W.codeIn K (.ref cL) "law" = true) (TB : LamX.TabB base mg cL PL) :
    FnOk P w K mg base CX0 13 f (PySem.W.fnOf "law" "law" (defArgs s_law) (defBody s_law) (defScope s_law) .none kV doc pm an (.ref cL) ct) ["_law_script"] (spLaw K PL) := by
    have G_bag : FnOk P w K mg base CX0 1 Z.a_bag Z.fd_bag P_bag (spBag K) := ok_bag Z
    have G_DuplicateName___init__ : FnOk P w K mg base CX0 1 Z.a_DuplicateName___init__ Z.fd_DuplicateName___init__ P_DuplicateName___init__ (spExc Z.C_DuplicateName "DuplicateName" ["name"]) := ok_DuplicateName___init__ Z
    have G_DuplicateRule___init__ : FnOk P w K mg base CX0 1 Z.a_DuplicateRule___init__ Z.fd_DuplicateRule___init__ P_DuplicateRule___init__ (spExc Z.C_DuplicateRule "DuplicateRule" ["index"]) := ok_DuplicateRule___init__ Z
    have G_InvalidCount___init__ : FnOk P w K mg base CX0 1 Z.a_InvalidCount___init__ Z.fd_InvalidCount___init__ P_InvalidCount___init__ (spExc Z.C_InvalidCount "InvalidCount" ["given"]) := ok_InvalidCount___init__ Z
    have G_InvalidEvent___init__ : FnOk P w K mg base CX0 1 Z.a_InvalidEvent___init__ Z.fd_InvalidEvent___init__ P_InvalidEvent___init__ (spExc Z.C_InvalidEvent "InvalidEvent" ["index"]) := ok_InvalidEvent___init__ Z
    have G_InvalidName___init__ : FnOk P w K mg base CX0 1 Z.a_InvalidName___init__ Z.fd_InvalidName___init__ P_InvalidName___init__ (spExc Z.C_InvalidName "InvalidName" ["given"]) := ok_InvalidName___init__ Z
    have G_InvalidRule___init__ : FnOk P w K mg base CX0 1 Z.a_InvalidRule___init__ Z.fd_InvalidRule___init__ P_InvalidRule___init__ (spExc Z.C_InvalidRule "InvalidRule" ["index"]) := ok_InvalidRule___init__ Z
    have G_InvalidState___init__ : FnOk P w K mg base CX0 1 Z.a_InvalidState___init__ Z.fd_InvalidState___init__ P_InvalidState___init__ (spExc Z.C_InvalidState "InvalidState" []) := ok_InvalidState___init__ Z
    have G_TooWide___init__ : FnOk P w K mg base CX0 1 Z.a_TooWide___init__ Z.fd_TooWide___init__ P_TooWide___init__ (spExc Z.C_TooWide "TooWide" ["most"]) := ok_TooWide___init__ Z
    have G_take : ∀ a, FnOk P w K mg base CX0 1 Z.a_take Z.fd_take P_take (spD ⟨some a, NM, [PL]⟩ 2 takeT) := fun a => ok_take Z a _ _
    have G_of : ∀ a, FnOk P w K mg base CX0 2 Z.a_of Z.fd_of P_of (spD ⟨some a, NM, [PL]⟩ 2 ofT) := fun a => ok_of Z (G_take a)
    have G_names : ∀ a, FnOk P w K mg base CX0 3 Z.a_names Z.fd_names P_names (spD ⟨some a, NM, [PL]⟩ 2 sp_names) := fun a => ok_names Z (G_of a) (G_take a)
    have G_is_list : ∀ a, FnOk P w K mg base CX0 1 Z.a_is_list Z.fd_is_list P_is_list (spD ⟨some a, NM, [PL]⟩ 1 (sp_is_list Z.C_dE)) := fun a => ok_is_list Z 
    have G_is_name : ∀ a, FnOk P w K mg base CX0 1 Z.a_is_name Z.fd_is_name P_is_name (spD ⟨some a, NM, [PL]⟩ 1 sp_is_name) := fun a => ok_is_name Z 
    have GX_check_names : ∀ a, FnOk P w K mg base (L2.CX P w) 3 Z.a_check_names Z.fd_check_names P_check_names (spDX ⟨some a, NM, [PL]⟩ 1 (sp_check_names Z.C_dE Z.C_InvalidName)) := fun a => okX_check_names Z G_InvalidName___init__ (G_is_list a) (G_is_name a)
    have G_check_names : ∀ a, FnOk P w K mg base CX0 3 Z.a_check_names Z.fd_check_names P_check_names (spD ⟨some a, NM, [PL]⟩ 1 (calmT (sp_check_names Z.C_dE Z.C_InvalidName))) := fun a => ok_check_names Z G_InvalidName___init__ (G_is_list a) (G_is_name a)
    have GX_check_different : ∀ a, FnOk P w K mg base (L2.CX P w) 3 Z.a_check_different Z.fd_check_different P_check_different (spDX ⟨some a, NM, [PL]⟩ 1 (sp_check_different Z.C_DuplicateName)) := fun a => okX_check_different Z G_DuplicateName___init__
    have G_check_different : ∀ a, FnOk P w K mg base CX0 3 Z.a_check_different Z.fd_check_different P_check_different (spD ⟨some a, NM, [PL]⟩ 1 (calmT (sp_check_different Z.C_DuplicateName))) := fun a => ok_check_different Z G_DuplicateName___init__
    have GX_check_count : ∀ a, FnOk P w K mg base (L2.CX P w) 3 Z.a_check_count Z.fd_check_count P_check_count (spDX ⟨some a, NM, [PL]⟩ 3 (sp_check_count Z.C_InvalidCount)) := fun a => okX_check_count Z G_InvalidCount___init__
    have G_check_count : ∀ a, FnOk P w K mg base CX0 3 Z.a_check_count Z.fd_check_count P_check_count (spD ⟨some a, NM, [PL]⟩ 3 (calmT (sp_check_count Z.C_InvalidCount))) := fun a => ok_check_count Z G_InvalidCount___init__
    have G_are_pairs : ∀ a, FnOk P w K mg base CX0 1 Z.a_are_pairs Z.fd_are_pairs P_are_pairs (spD ⟨some a, NM, [PL]⟩ 2 sp_are_pairs) := fun a => ok_are_pairs Z 
    have G_is_whole : ∀ a, FnOk P w K mg base CX0 1 Z.a_is_whole Z.fd_is_whole P_is_whole (spD ⟨some a, NM, [PL]⟩ 1 sp_is_whole) := fun a => ok_is_whole Z 
    have G_is_integer : ∀ a, FnOk P w K mg base CX0 2 Z.a_is_integer Z.fd_is_integer P_is_integer (spD ⟨some a, NM, [PL]⟩ 3 sp_is_integer) := fun a => ok_is_integer Z (G_is_whole a)
    have G_are_terms : ∀ a, FnOk P w K mg base CX0 3 Z.a_are_terms Z.fd_are_terms P_are_terms (spD ⟨some a, NM, [PL]⟩ 2 sp_are_terms) := fun a => ok_are_terms Z (G_are_pairs a) (G_is_integer a)
    have G_is_rule : ∀ a, FnOk P w K mg base CX0 4 Z.a_is_rule Z.fd_is_rule P_is_rule (spD ⟨some a, NM, [PL]⟩ 4 sp_is_rule) := fun a => ok_is_rule Z (G_are_pairs a) (G_are_terms a)
    have GX_check_rules : ∀ a, FnOk P w K mg base (L2.CX P w) 5 Z.a_check_rules Z.fd_check_rules P_check_rules (spDX ⟨some a, NM, [PL]⟩ 4 (sp_check_rules Z.C_dE Z.C_InvalidRule Z.C_DuplicateRule)) := fun a => okX_check_rules Z G_DuplicateRule___init__ G_InvalidRule___init__ (G_is_list a) (G_is_rule a)
    have G_check_rules : ∀ a, FnOk P w K mg base CX0 5 Z.a_check_rules Z.fd_check_rules P_check_rules (spD ⟨some a, NM, [PL]⟩ 4 (calmT (sp_check_rules Z.C_dE Z.C_InvalidRule Z.C_DuplicateRule))) := fun a => ok_check_rules Z G_DuplicateRule___init__ G_InvalidRule___init__ (G_is_list a) (G_is_rule a)
    have GX_Program___init__ : ∀ a, FnOk P w K mg base (L2.CX P w) 6 Z.a_Program___init__ Z.fd_Program___init__ P_Program___init__ (spIX ⟨some a, NM, [PL]⟩ Z.C_Program 4 (sp_Program___init__ Z.C_Program Z.C_dE Z.C_InvalidName Z.C_DuplicateName Z.C_InvalidCount Z.C_TooWide Z.C_InvalidRule Z.C_DuplicateRule)) := fun a => okX_Program___init__ Z (GX_check_count a) (GX_check_different a) (GX_check_names a) (GX_check_rules a) G_TooWide___init__
    have G_Program___init__ : ∀ a, FnOk P w K mg base CX0 6 Z.a_Program___init__ Z.fd_Program___init__ P_Program___init__ (spI ⟨some a, NM, [PL]⟩ Z.C_Program 4 (calmI (sp_Program___init__ Z.C_Program Z.C_dE Z.C_InvalidName Z.C_DuplicateName Z.C_InvalidCount Z.C_TooWide Z.C_InvalidRule Z.C_DuplicateRule))) := fun a => ok_Program___init__ Z (GX_check_count a) (GX_check_different a) (GX_check_names a) (GX_check_rules a) G_TooWide___init__
    have GX_Program_idle : ∀ a, FnR P w K mg base (L2.CX P w) 8 Z.a_Program_idle (spSX ⟨some a, NM, [PL]⟩ 1 (sp_Program_idle Z.C_Program Z.C_dE Z.C_InvalidName Z.C_DuplicateName Z.C_InvalidCount Z.C_TooWide Z.C_InvalidRule Z.C_DuplicateRule)) := fun a => okX_Program_idle Z (GX_Program___init__ a)
    have G_Program_idle : ∀ a, FnR P w K mg base CX0 8 Z.a_Program_idle (spS ⟨some a, NM, [PL]⟩ 1 (calmT (sp_Program_idle Z.C_Program Z.C_dE Z.C_InvalidName Z.C_DuplicateName Z.C_InvalidCount Z.C_TooWide Z.C_InvalidRule Z.C_DuplicateRule))) := fun a => ok_Program_idle Z (GX_Program___init__ a)
    have G_same : ∀ a, FnOk P w K mg base CX0 9 Z.a_same Z.fd_same P_same (spD ⟨some a, NM, [PL]⟩ 2 (sameT 8)) := fun a => ok_same Z 8
    have G_Program_modes : ∀ a, FnOk P w K mg base CX0 1 Z.a_Program_modes Z.fd_Program_modes P_Program_modes (spD ⟨some a, NM, [PL]⟩ 1 (sp_Program_modes Z.C_Program Z.C_dE)) := fun a => ok_Program_modes Z 
    have G_Program_registers : ∀ a, FnOk P w K mg base CX0 1 Z.a_Program_registers Z.fd_Program_registers P_Program_registers (spD ⟨some a, NM, [PL]⟩ 1 (sp_Program_registers Z.C_Program Z.C_dE)) := fun a => ok_Program_registers Z 
    have G_Program_signs : ∀ a, FnOk P w K mg base CX0 1 Z.a_Program_signs Z.fd_Program_signs P_Program_signs (spD ⟨some a, NM, [PL]⟩ 1 (sp_Program_signs Z.C_Program Z.C_dE)) := fun a => ok_Program_signs Z 
    have G_Program_rules : ∀ a, FnOk P w K mg base CX0 1 Z.a_Program_rules Z.fd_Program_rules P_Program_rules (spD ⟨some a, NM, [PL]⟩ 1 (sp_Program_rules Z.C_Program Z.C_dE)) := fun a => ok_Program_rules Z 
    have G_Program_width : ∀ a, FnOk P w K mg base CX0 1 Z.a_Program_width Z.fd_Program_width P_Program_width (spD ⟨some a, NM, [PL]⟩ 1 (sp_Program_width Z.C_Program Z.C_dE)) := fun a => ok_Program_width Z 
    have G_Program_first_state : ∀ a, FnOk P w K mg base CX0 1 Z.a_Program_first_state Z.fd_Program_first_state P_Program_first_state (spD ⟨some a, NM, [PL]⟩ 1 (sp_Program_first_state Z.C_Program Z.C_dE)) := fun a => ok_Program_first_state Z 
    have G_Program_is_state : ∀ a, FnOk P w K mg base CX0 2 Z.a_Program_is_state Z.fd_Program_is_state P_Program_is_state (spD ⟨some a, NM, [PL]⟩ 2 (sp_Program_is_state Z.C_Program Z.C_dE)) := fun a => ok_Program_is_state Z (G_is_whole a)
    have GX_check_state : ∀ a, FnOk P w K mg base (L2.CX P w) 3 Z.a_check_state Z.fd_check_state P_check_state (spDX ⟨some a, NM, [PL]⟩ 2 (sp_check_state Z.C_Program Z.C_dE Z.C_InvalidState)) := fun a => okX_check_state Z G_InvalidState___init__ (G_Program_is_state a)
    have G_check_state : ∀ a, FnOk P w K mg base CX0 3 Z.a_check_state Z.fd_check_state P_check_state (spD ⟨some a, NM, [PL]⟩ 2 (calmT (sp_check_state Z.C_Program Z.C_dE Z.C_InvalidState))) := fun a => ok_check_state Z G_InvalidState___init__ (G_Program_is_state a)
    have G_Program_is_event : ∀ a, FnOk P w K mg base CX0 3 Z.a_Program_is_event Z.fd_Program_is_event P_Program_is_event (spD ⟨some a, NM, [PL]⟩ 2 (sp_Program_is_event Z.C_Program Z.C_dE)) := fun a => ok_Program_is_event Z (G_is_integer a)
    have GX_check_events : ∀ a, FnOk P w K mg base (L2.CX P w) 4 Z.a_check_events Z.fd_check_events P_check_events (spDX ⟨some a, NM, [PL]⟩ 2 (sp_check_events Z.C_Program Z.C_dE Z.C_InvalidEvent)) := fun a => okX_check_events Z G_InvalidEvent___init__ (G_Program_is_event a) (G_is_list a)
    have G_check_events : ∀ a, FnOk P w K mg base CX0 4 Z.a_check_events Z.fd_check_events P_check_events (spD ⟨some a, NM, [PL]⟩ 2 (calmT (sp_check_events Z.C_Program Z.C_dE Z.C_InvalidEvent))) := fun a => ok_check_events Z G_InvalidEvent___init__ (G_Program_is_event a) (G_is_list a)
    have G_Program__moved : ∀ a, FnOk P w K mg base CX0 1 Z.a_Program__moved Z.fd_Program__moved P_Program__moved (spD ⟨some a, NM, [PL]⟩ 3 (sp_Program__moved Z.C_Program Z.C_dE)) := fun a => ok_Program__moved Z 
    have GX_Program_run : ∀ a, FnOk P w K mg base (L2.CX P w) 5 Z.a_Program_run Z.fd_Program_run P_Program_run (spDX ⟨some a, NM, [PL]⟩ 3 (sp_Program_run Z.C_Program Z.C_dE Z.C_InvalidState Z.C_InvalidEvent)) := fun a => okX_Program_run Z (GX_check_events a) (GX_check_state a) (G_Program__moved a)
    have G_Program_run : ∀ a, FnOk P w K mg base CX0 5 Z.a_Program_run Z.fd_Program_run P_Program_run (spD ⟨some a, NM, [PL]⟩ 3 (calmT (sp_Program_run Z.C_Program Z.C_dE Z.C_InvalidState Z.C_InvalidEvent))) := fun a => ok_Program_run Z (GX_check_events a) (GX_check_state a) (G_Program__moved a)
    have G_bad_name : ∀ a, FnOk P w K mg base CX0 3 Z.a_bad_name Z.fd_bad_name P_bad_name (spD ⟨some a, NM, [PL]⟩ 1 sp_bad_name) := fun a => ok_bad_name Z (G_of a)
    have G_fields : ∀ a, FnA P w K mg base 1 Z.a_fields Z.fd_fields P_fields (spD ⟨some a, NM, [PL]⟩ 1 (fieldsT K codesT)) := fun a => ok_fields Z 
    have G_got : ∀ a, FnOk P w K mg base CX0 10 Z.a_got Z.fd_got P_got (spD ⟨some a, NM, [PL]⟩ 1 (gotT P w K mg base ⟨some a, NM, [PL]⟩ 9 (xsT Z) codesT)) := fun a => ok_got Z (G_fields a)
    have G_why : ∀ a, FnOk P w K mg base CX0 11 Z.a_why Z.fd_why P_why (spD ⟨some a, NM, [PL]⟩ 1 (whyT P w K mg base ⟨some a, NM, [PL]⟩ 9 (xsT Z) codesT)) := fun a => ok_why Z (G_got a)
    have G_whys : ∀ a, FnOk P w K mg base CX0 12 Z.a_whys Z.fd_whys P_whys (spD ⟨some a, NM, [PL]⟩ 1 (whysT P w K mg base ⟨some a, NM, [PL]⟩ 9 (xsT Z) codesT)) := fun a => ok_whys Z (G_why a)
    have GL_0 : ∀ a, CloOk P w K mg base ⟨some a, NM, [PL]⟩ 9 lamL0 (fun ds Q R => ds.map (·.1) = (["_law_odd", "_law_names_here"] : List Str) ∧ noExF ds = true ∧ sp_lam0 Z.C_Program Z.C_dE Z.C_InvalidName Z.C_DuplicateName Z.C_InvalidCount Z.C_TooWide Z.C_InvalidRule Z.C_DuplicateRule (ds.map (·.2)) Q R) := fun a => (lamok0 Z (GX_Program_idle a)).mono (by decide)
    have GL_1 : ∀ a, CloOk P w K mg base ⟨some a, NM, [PL]⟩ 9 lamL1 (fun ds Q R => ds.map (·.1) = (["_law_names_here"] : List Str) ∧ noExF ds = true ∧ sp_lam1 Z.C_Program Z.C_dE Z.C_InvalidName Z.C_DuplicateName Z.C_InvalidCount Z.C_TooWide Z.C_InvalidRule Z.C_DuplicateRule (ds.map (·.2)) Q R) := fun a => (lamok1 Z (GX_Program_idle a)).mono (by decide)
    have GL_2 : ∀ a, CloOk P w K mg base ⟨some a, NM, [PL]⟩ 9 lamL2 (fun ds Q R => ds.map (·.1) = ([] : List Str) ∧ noExF ds = true ∧ sp_lam2 Z.C_Program Z.C_dE Z.C_InvalidName Z.C_DuplicateName Z.C_InvalidCount Z.C_TooWide Z.C_InvalidRule Z.C_DuplicateRule (ds.map (·.2)) Q R) := fun a => (lamok2 Z (GX_Program_idle a)).mono (by decide)
    have GL_3 : ∀ a, CloOk P w K mg base ⟨some a, NM, [PL]⟩ 9 lamL3 (fun ds Q R => ds.map (·.1) = (["_law_names_here"] : List Str) ∧ noExF ds = true ∧ sp_lam3 Z.C_Program Z.C_dE Z.C_InvalidName Z.C_DuplicateName Z.C_InvalidCount Z.C_TooWide Z.C_InvalidRule Z.C_DuplicateRule (ds.map (·.2)) Q R) := fun a => (lamok3 Z (GX_Program_idle a)).mono (by decide)
    refine fn_of lk hcd sc_law (fun vs H Q E h => ?_) (fun A outer s H vs Q E hr h => ?_)
    · obtain ⟨a, ns, rfl, _⟩ := h
      rfl
    obtain ⟨a, ns, rfl, hS, hlen, hTb, q⟩ := h
    have nd := sc_law.nd
    obtain ⟨te, t1, t2⟩ := law_rest (nm := NM) (tb := [PL]) (X := (cxOf CX0 P w K mg base N_law "law" (defScope s_law) f (.ref cL) A outer s H E).nox) (st := (defBody s_law).tail) (fun a => (ss_cons (s_set (i := 2) nd rfl (.inr rfl) (x_call (CX := CX0) (G_names a) (hr.mono (by decide)) (by rfl) Z.g_names Z.F_names.kp Z.b_names (a_cons (xv 1) (a_cons x_int a_nil))))
      (ss_cons (s_set (i := 3) nd rfl (.inl rfl) (x_l (l_lst (a_cons (x_cm Z.cr_Program Z.cm_Program_idle (G_Program_idle a) (hr.mono (by decide)) (by rfl) Z.mg_Program (a_cons (x_ix (xv 2) x_int) a_nil)) (a_cons (x_cm Z.cr_Program Z.cm_Program_idle (G_Program_idle a) (hr.mono (by decide)) (by rfl) Z.mg_Program (a_cons (x_ix (xv 2) x_int) (a_cons (x_ix (xv 2) x_int) (a_cons (x_ix (xv 2) x_int) a_nil)))) (a_cons (x_cm Z.cr_Program Z.cm_Program_idle (G_Program_idle a) (hr.mono (by decide)) (by rfl) Z.mg_Program (a_cons (x_ix (xv 2) x_int) (a_cons (x_ix (xv 2) x_int) (a_cons (x_ix (xv 2) x_int) (a_cons (x_ix (xv 2) x_int) (a_cons (x_ix (xv 2) x_int) (a_cons (x_ix (xv 2) x_int) a_nil))))))) a_nil))))))
      (ss_cons (s_set (i := 4) nd rfl (.inl rfl) (x_l (l_lst (a_cons (x_l (l_sl (xv 2) o_none (o_some x_int))) (a_cons (x_l (l_sl (xv 2) o_none (o_some x_int))) (a_cons (x_l (l_lst (a_cons (x_ix (xv 2) x_int) (a_cons (x_ix (xv 2) x_int) (a_cons (x_ix (xv 2) x_int) (a_cons (x_ix (xv 2) x_int) (a_cons (x_ix (xv 2) x_int) (a_cons (x_ix (xv 2) x_int) a_nil)))))))) a_nil))))))
      (ss_cons (s_for rfl (i_zip2 (by rfl) Z.z_zip (a_cons (xv 3) (a_cons (xv 4) a_nil))) (g_tup' (m := 2) rfl (gs_cons (g_name (i := 5) nd rfl (by first | exact .inl rfl | exact .inr rfl)) (gs_cons (g_name (i := 6) nd rfl (by first | exact .inl rfl | exact .inr rfl)) gs_nil))) (ss_cons (s_if (t_not (t_val (x_call (CX := CX0) (G_same a) (hr.mono (by decide)) (by rfl) Z.g_same Z.F_same.kp Z.b_same (a_cons (x_l (l_lst (a_cons (x_meth0 Z.cl_Program Z.me_Program_modes (G_Program_modes a) (hr.mono (by decide)) Z.b_Program_modes (xv 5)) (a_cons (x_meth0 Z.cl_Program Z.me_Program_registers (G_Program_registers a) (hr.mono (by decide)) Z.b_Program_registers (xv 5)) (a_cons (x_meth0 Z.cl_Program Z.me_Program_signs (G_Program_signs a) (hr.mono (by decide)) Z.b_Program_signs (xv 5)) (a_cons (x_meth0 Z.cl_Program Z.me_Program_rules (G_Program_rules a) (hr.mono (by decide)) Z.b_Program_rules (xv 5)) (a_cons (x_prop Z.cl_Program Z.pr_Program_width (G_Program_width a) (hr.mono (by decide)) Z.b_Program_width (xv 5)) a_nil))))))) (a_cons (x_l (l_lst (a_cons (x_l (l_lst (a_cons x_str a_nil))) (a_cons (x_l (l_lst a_nil)) (a_cons (xv 6) (a_cons (x_l (l_lst a_nil)) (a_cons x_int a_nil))))))) a_nil))))) (ss_one (s_ret x_bl)) ss_nil)
      (ss_one (s_if (t_not (t_val (x_call (CX := CX0) (G_same a) (hr.mono (by decide)) (by rfl) Z.g_same Z.F_same.kp Z.b_same (a_cons (x_l (l_lst (a_cons (x_meth0 Z.cl_Program Z.me_Program_first_state (G_Program_first_state a) (hr.mono (by decide)) Z.b_Program_first_state (xv 5)) (a_cons (x_meth Z.cl_Program Z.me_Program_run (G_Program_run a) (hr.mono (by decide)) Z.b_Program_run (xv 5) (a_cons (x_tup (a_cons x_str (a_cons (x_tup a_nil) a_nil))) (a_cons (x_l (l_lst (a_cons (x_tup (a_cons (x_ix (xv 6) (x_neg x_int)) (a_cons x_int a_nil))) a_nil))) a_nil))) a_nil)))) (a_cons (x_l (l_lst (a_cons (x_tup (a_cons x_str (a_cons (x_tup a_nil) a_nil))) (a_cons (x_tup (a_cons x_str (a_cons (x_tup a_nil) a_nil))) a_nil)))) a_nil))))) (ss_one (s_ret x_bl)) ss_nil))))
      (ss_cons (s_set (i := 7) nd rfl (.inr rfl) (x_call (CX := CX0) (G_bad_name a) (hr.mono (by decide)) (by rfl) Z.g_bad_name Z.F_bad_name.kp Z.b_bad_name (a_cons (xv 1) a_nil)))
      (ss_cons (s_setL (i := 8) nd rfl (.inl rfl) (l_lst (a_cons (x_lam0 (fv := []) (DL.LamN.q (q := Str.empty) (lamN_by (by decide +kernel))) TB rfl (List.mem_singleton.mpr rfl) rfl (lamF_by (sc := defScope s_law) (by decide +kernel))) (a_cons (x_lam1 (fv := ["_law_names_here"]) (DL.LamN.q (q := Str.empty) (lamN_by (by decide +kernel))) TB rfl (List.mem_singleton.mpr rfl) rfl (lamF_by (sc := defScope s_law) (by decide +kernel))) (a_cons (x_lam1 (fv := ["_law_odd", "_law_names_here"]) (DL.LamN.q (q := Str.empty) (lamN_by (by decide +kernel))) TB rfl (List.mem_singleton.mpr rfl) rfl (lamF_by (sc := defScope s_law) (by decide +kernel))) a_nil)))))
      (ss_cons (s_app 8 (x_lam1 (fv := ["_law_names_here"]) (DL.LamN.q (q := Str.empty) (lamN_by (by decide +kernel))) TB rfl (List.mem_singleton.mpr rfl) rfl (lamF_by (sc := defScope s_law) (by decide +kernel))))
      (ss_cons (s_set (i := 9) nd rfl (.inl rfl) (x_l (l_lst (a_cons (x_tup (a_cons x_str (a_cons (x_tup (a_cons x_int a_nil)) a_nil))) (a_cons (x_tup (a_cons x_str (a_cons (x_tup (a_cons (x_ix (xv 2) x_int) a_nil)) a_nil))) (a_cons (x_tup (a_cons x_str (a_cons (x_tup (a_cons (xv 7) a_nil)) a_nil))) (a_cons (x_tup (a_cons x_str (a_cons (x_tup (a_cons x_int a_nil)) a_nil))) a_nil)))))))
      (ss_one (s_ret (x_lend 8 (x_call (CX := CX0) (G_same a) (hr.mono (by decide)) (by rfl) Z.g_same Z.F_same.kp Z.b_same (a_cons (x_callL (cap := [("_law_names_here", 2), ("_law_odd", 7)]) (CapN.cons rfl rfl rfl (by decide +kernel) (CapN.cons rfl rfl rfl (by decide +kernel) CapN.nil)) rfl rfl (G_whys a) (hr.mono (by decide)) (by rfl) Z.g_whys Z.F_whys.kp Z.b_whys (a_cons (xv 8) a_nil)) (a_cons (xv 9) a_nil)))))))))))))))
    refine ⟨_, PSs.nox (pss_cons (ps_set (i := 1) nd rfl (.inl rfl) (pe_call G_bag (hr.mono (by decide)) (by rfl) Z.g_bag Z.F_bag.kp Z.b_bag .nil pass0 (pa_cons (pv 0) pa_nil))) t1), ?_⟩
    refine ⟨.ref a, rfl, a, ns, rfl, hS, hlen, fun p c cs m H' hex hcs m0 m1 hc hp => ?_⟩
    refine law_go (γ := [.un, .val .bag, .un, .un, .un, .un, .un, .un, .un, .un]) t2 hcs m0 m1 hc hp (fun T hT => by rw [List.mem_singleton.mp hT]; exact .nil (hex _ _ hTb)) (N := N_law) (i := 1) rfl rfl q ?_
    walk_at "gs"
    intro ys hl hnd hpl
    match ys, hl with
    | [n0, n1, n2, n3, n4, n5, n6, n7], _ =>
    have hnm : ∀ y, y ∈ [n0, n1, n2, n3, n4, n5, n6, n7] → nameS y = true := fun y hy => plain_nameS (hpl y hy)
    have h1 : [n0].Nodup := hnd.sublist (List.take_sublist 1 [n0, n1, n2, n3, n4, n5, n6, n7])
    have h3 : [n0, n1, n2].Nodup := hnd.sublist (List.take_sublist 3 [n0, n1, n2, n3, n4, n5, n6, n7])
    have h6 : [n0, n1, n2, n3, n4, n5].Nodup := hnd.sublist (List.take_sublist 6 [n0, n1, n2, n3, n4, n5, n6, n7])
    have h7 : [n0, n1, n2, n3, n4, n5, n6].Nodup := hnd.sublist (List.take_sublist 7 [n0, n1, n2, n3, n4, n5, n6, n7])
    have r6 : [n5, n4, n3, n2, n1, n0].Nodup := (List.pairwise_reverse (l := [n0, n1, n2, n3, n4, n5])).mpr (List.Pairwise.imp (fun h => Ne.symm h) h6)
    have g7 : ∀ y, y ∈ [n0, n1, n2, n3, n4, n5, n6] → nameS y = true := fun y hy => hnm y ((List.take_sublist 7 [n0, n1, n2, n3, n4, n5, n6, n7]).subset hy)
    have g6 : ∀ y, y ∈ [n0, n1, n2, n3, n4, n5] → nameS y = true := fun y hy => hnm y ((List.take_sublist 6 [n0, n1, n2, n3, n4, n5, n6, n7]).subset hy)
    have g3 : ∀ y, y ∈ [n0, n1, n2] → nameS y = true := fun y hy => hnm y ((List.take_sublist 3 [n0, n1, n2, n3, n4, n5, n6, n7]).subset hy)
    have g1 : ∀ y, y ∈ [n0] → nameS y = true := fun y hy => hnm y ((List.take_sublist 1 [n0, n1, n2, n3, n4, n5, n6, n7]).subset hy)
    have q6 : ∀ y, y ∈ [n5, n4, n3, n2, n1, n0] → nameS y = true := fun y hy => g6 y (List.mem_reverse.mp hy)
    walk_at "gs"
    refine idle_good (sg := [n0]) (Nat.le_of_ble_eq_true rfl) (Nat.le_of_ble_eq_true rfl) g1 h1 ?_
    walk_at "gs"
    refine idle_good (sg := [n0, n1, n2]) (Nat.le_of_ble_eq_true rfl) (Nat.le_of_ble_eq_true rfl) g3 h3 ?_
    walk_at "gs"
    refine idle_good (sg := [n5, n4, n3, n2, n1, n0]) (Nat.le_of_ble_eq_true rfl) (Nat.le_of_ble_eq_true rfl) q6 r6 ?_
    walk_at "gs"
    rw [show DL.cutD (List.map Dt.str [n0, n1, n2, n3, n4, n5, n6, n7]) none (some 1) = [.str n0] from rfl, show DL.cutD (List.map Dt.str [n0, n1, n2, n3, n4, n5, n6, n7]) none (some 3) = [.str n0, .str n1, .str n2] from rfl]
    refine for_of (as := [[n0], [n0, n1, n2], [n5, n4, n3, n2, n1, n0]]) (g := fun sg => .tup [progP Z.C_Program Z.C_dE ["on"] [] sg, .lst (sg.map Dt.str)]) (Iv := fun i γ => ∃ s3 s4 s5 s6 : Sl, γ = [.un, .val .bag, .val (.lst ([n0, n1, n2, n3, n4, n5, n6, n7].map Dt.str)), s3, s4, s5, s6, .un, .un, .un]) rfl ?_ (fun i sg γ' hx hI => ?_) (fun γ' hI => ?_)
    · exact ⟨_, _, _, _, rfl⟩
    · obtain ⟨s3, s4, s5, s6, rfl⟩ := hI
      have hm := List.mem_of_getElem? hx
      have facts : sg.length ≤ 6 ∧ (∀ y, y ∈ sg → nameS y = true) ∧ ∃ l, l ∈ sg ∧ atI (sg.map Dt.str) (-1) = some (.str l) := by
        simp only [List.mem_cons, List.not_mem_nil, or_false] at hm
        rcases hm with rfl | rfl | rfl
        · exact ⟨Nat.le_of_ble_eq_true rfl, g1, n0, .head _, rfl⟩
        · exact ⟨Nat.le_of_ble_eq_true rfl, g3, n2, .tail _ (.tail _ (.head _)), rfl⟩
        · exact ⟨Nat.le_of_ble_eq_true rfl, q6, n0, .tail _ (.tail _ (.tail _ (.tail _ (.tail _ (.head _))))), rfl⟩
      obtain ⟨f6, fn, l, lm, la⟩ := facts
      walk_at "gs"
      refine ⟨["on"], [], sg, rfl, Nat.le_of_ble_eq_true rfl, ?_⟩
      walk_at "gs"
      refine ⟨["on"], [], sg, rfl, Nat.le_of_ble_eq_true rfl, ?_⟩
      walk_at "gs"
      refine ⟨["on"], [], sg, rfl, by omega, ?_⟩
      walk_at "gs"
      refine ⟨["on"], [], sg, rfl, ?_⟩
      walk_at "gs"
      refine ⟨["on"], [], sg, rfl, Nat.le_of_ble_eq_true rfl, Nat.le_of_ble_eq_true rfl, ?_⟩
      walk_at "gs"
      have hok : okS (.lst [.lst [.str "on"], .lst [], .lst (sg.map Dt.str), .lst [], .int 1]) = true := okL_of (Nat.le_of_ble_eq_true rfl) fun x hx => by
        simp only [List.mem_cons, List.not_mem_nil, or_false] at hx
        rcases hx with rfl | rfl | rfl | rfl | rfl
        · rfl
        · rfl
        · exact okS_strs (by omega)
        · rfl
        · rfl
      have hdp : dep (.lst [.lst [.str "on"], .lst [], .lst (sg.map Dt.str), .lst [], .int 1]) ≤ 8 := dep_lst.mpr fun x hx => by
        simp only [List.mem_cons, List.not_mem_nil, or_false] at hx
        rcases hx with rfl | rfl | rfl | rfl | rfl
        · exact Nat.le_trans (dep_strs ["on"]) (by decide)
        · exact Nat.le_trans (dep_strs []) (by decide)
        · exact Nat.le_trans (dep_strs _) (by decide)
        · exact Nat.le_trans (dep_strs []) (by decide)
        · rw [dep_int] <;> decide
      refine ⟨hok, hdp, ?_⟩
      walk_at "gs"
      refine ⟨"on", [], [], sg, rfl, Nat.le_of_ble_eq_true rfl, ?_⟩
      walk_at "gs"
      refine ⟨.str l, la, ?_⟩
      walk_at "gs"
      have hon : ("on" : Str) ∈ (["on"] : List Str) := List.mem_cons_self
      refine ⟨["on"], [], sg, .tup [.str "on", .tup []], [.tup [.str l, .int 5]], rfl, stOk_of (m := "on") (vs := []) (Nat.le_of_ble_eq_true rfl), fun y hy => by rw [List.mem_singleton.mp hy]; exact evOk_of l 5, Nat.le_of_ble_eq_true rfl, fun h => absurd ((stateD_of (ms := ["on"]) (rg := []) (vs := []) hon rfl).symm.trans h) (by decide), fun _ i y h1 h2 _ => ?_, fun m vs e hm hv _ => ?_⟩
      · have h := List.mem_of_getElem? h1
        rw [List.mem_singleton.mp h] at h2
        exact absurd ((eventD_of lm (a := 5) (by decide) (by decide)).symm.trans h2) (by decide)
      obtain ⟨rfl, rfl⟩ := state_inj (show stD ("on", []) = stD (m, vs) from e)
      walk_at "gs"
      exact ⟨_, _, _, _, rfl⟩
    obtain ⟨s3, s4, s5, s6, rfl⟩ := hI
    walk_at "gs"
    intro o ho
    have hb := bad_ok ho
    walk_at "gs"
    intro lg
    walk_at "gs"
    refine ⟨fun q hq => ?_, fun x hx => ?_, ?_⟩
    · simp only [List.map_cons, List.map_nil, List.mem_cons, List.not_mem_nil, or_false] at hq
      rcases hq with rfl | rfl <;> exact ⟨_, rfl⟩
    · simp only [List.mem_cons, List.not_mem_nil, or_false, List.mem_append] at hx
      rcases hx with (rfl | rfl | rfl) | rfl
      · exact ⟨rfl, fun y hy => by cases hy⟩
      · refine ⟨rfl, fun y hy => ?_⟩
        simp only [List.mem_cons, List.not_mem_nil, or_false] at hy
        rcases hy with rfl <;> first | exact .head _ | exact .tail _ (.head _)
      · refine ⟨rfl, fun y hy => ?_⟩
        simp only [List.mem_cons, List.not_mem_nil, or_false] at hy
        rcases hy with rfl | rfl <;> first | exact .head _ | exact .tail _ (.head _)
      · refine ⟨rfl, fun y hy => ?_⟩
        simp only [List.mem_cons, List.not_mem_nil, or_false] at hy
        rcases hy with rfl <;> first | exact .head _ | exact .tail _ (.head _)
    have hnn : noEx (.lst ([n0, n1, n2, n3, n4, n5, n6, n7].map Dt.str)) = true := noEx_strs _
    refine ⟨[((lamL2, _), .tup [.str "InvalidCount", .tup [.int 0]]), ((lamL1, _), .tup [.str "DuplicateName", .tup [.str n0]]), ((lamL0, _), .tup [.str "InvalidName", .tup [o]]), ((lamL3, _), .tup [.str "InvalidCount", .tup [.int 7]])], rfl, Nat.le_of_ble_eq_true rfl, fun p hp => ?_, ?_⟩
    · simp only [List.mem_cons, List.not_mem_nil, or_false] at hp
      rcases hp with rfl | rfl | rfl | rfl
      · refine ⟨lamL2, _, rfl, CloBeh.of (GL_2 _) ⟨rfl, rfl, rfl, ?_⟩⟩
        exact ⟨Z.xm_InvalidCount, "InvalidCount", ["given"], [.int 0], rfl, ExcOk.one Z.xf_InvalidCount Z.nf_InvalidCount_code Z.nf_InvalidCount_given, by decide +kernel, rfl, Nat.le_of_ble_eq_true rfl, rfl⟩
      · refine ⟨lamL1, _, rfl, CloBeh.of (GL_1 _) ⟨rfl, ?_, n0, [n1, n2, n3, n4, n5, n6, n7], rfl, hnm n0 (.head _), ?_⟩⟩
        · show (noEx (.lst ([n0, n1, n2, n3, n4, n5, n6, n7].map Dt.str)) && true) = true
          rw [hnn] <;> rfl
        exact ⟨Z.xm_DuplicateName, "DuplicateName", ["name"], [.str n0], rfl, ExcOk.one Z.xf_DuplicateName Z.nf_DuplicateName_code Z.nf_DuplicateName_name, by decide +kernel, rfl, Nat.le_of_ble_eq_true rfl, rfl⟩
      · refine ⟨lamL0, _, rfl, CloBeh.of (GL_0 _) ⟨rfl, ?_, o, n0, [n1, n2, n3, n4, n5, n6, n7], rfl, hnm n0 (.head _), hb, ?_⟩⟩
        · show (noEx o && (noEx (.lst ([n0, n1, n2, n3, n4, n5, n6, n7].map Dt.str)) && true)) = true
          rw [hnn, hb.e] <;> rfl
        exact ⟨Z.xm_InvalidName, "InvalidName", ["given"], [o], rfl, ExcOk.one Z.xf_InvalidName Z.nf_InvalidName_code Z.nf_InvalidName_given, by decide +kernel, rfl, Nat.le_of_ble_eq_true rfl, rfl⟩
      · refine ⟨lamL3, _, rfl, CloBeh.of (GL_3 _) ⟨rfl, ?_, n0, n1, n2, n3, n4, n5, n6, n7, rfl, h7, g7, ?_⟩⟩
        · show (noEx (.lst ([n0, n1, n2, n3, n4, n5, n6, n7].map Dt.str)) && true) = true
          rw [hnn] <;> rfl
        exact ⟨Z.xm_InvalidCount, "InvalidCount", ["given"], [.int 7], rfl, ExcOk.one Z.xf_InvalidCount Z.nf_InvalidCount_code Z.nf_InvalidCount_given, by decide +kernel, rfl, Nat.le_of_ble_eq_true rfl, rfl⟩
    have hn : noEx (.lst [.tup [.str "InvalidCount", .tup [.int 0]], .tup [.str "DuplicateName", .tup [.str n0]], .tup [.str "InvalidName", .tup [o]], .tup [.str "InvalidCount", .tup [.int 7]]]) = true := by
      show ((true && ((true && true) && true)) && ((true && ((true && true) && true)) && ((true && ((noEx o && true) && true)) && ((true && ((true && true) && true)) && true)))) = true
      rw [hb.e] <;> rfl
    refine ⟨hn, ?_⟩
    walk_at "gs"
    have ho4 : okS (.lst [.tup [.str "InvalidCount", .tup [.int 0]], .tup [.str "DuplicateName", .tup [.str n0]], .tup [.str "InvalidName", .tup [o]], .tup [.str "InvalidCount", .tup [.int 7]]]) = true := okL_of (Nat.le_of_ble_eq_true rfl) fun x hx => by
      simp only [List.mem_cons, List.not_mem_nil, or_false] at hx
      rcases hx with rfl | rfl | rfl | rfl
      · exact okT_two rfl (okT_one rfl)
      · exact okT_two rfl (okT_one rfl)
      · exact okT_two rfl (okT_one hb.o)
      · exact okT_two rfl (okT_one rfl)
    have hd4 : dep (.lst [.tup [.str "InvalidCount", .tup [.int 0]], .tup [.str "DuplicateName", .tup [.str n0]], .tup [.str "InvalidName", .tup [o]], .tup [.str "InvalidCount", .tup [.int 7]]]) ≤ 5 := dep_lst.mpr fun x hx => by
      simp only [List.mem_cons, List.not_mem_nil, or_false] at hx
      rcases hx with rfl | rfl | rfl | rfl
      · exact depT_two (n := 3) (by rw [dep_str]; decide) (depT_one (by rw [dep_int]; decide))
      · exact depT_two (n := 3) (by rw [dep_str]; decide) (depT_one (by rw [dep_str]; decide))
      · exact depT_two (n := 3) (by rw [dep_str]; decide) (depT_one hb.d)
      · exact depT_two (n := 3) (by rw [dep_str]; decide) (depT_one (by rw [dep_int]; decide))
    refine ⟨ho4, Nat.le_trans hd4 (by decide), ?_⟩
    walk_at "gs"

end
/-! what the top has written -/
theorem all_mk {l : PySem.W.OpenLaw} {w : World} {K : PySem.W.Frag} {h : Heap} {mg : Str → Option Value} {fa f0 f1 f2 f3 f4 f5 f6 f7 f8 f9 f10 f11 f12 f13 f14 f15 f16 f17 f18 f19 f20 f21 f22 f23 f24 f25 f26 f27 f28 f29 f30 f31 f32 f33 f34 f35 f36 f37 f38 f39 f40 f41 f42 f43 : Addr} (X : K.In h) (G : h.Ns mainGlobals mg) (hfa : mg "law" = some (.ref fa))
    {C0 : Addr}
    {C1 : Addr}
    {C2 : Addr}
    {C3 : Addr}
    {C4 : Addr}
    {C5 : Addr}
    {C6 : Addr}
    {C7 : Addr}
    {C8 : Addr}
    {C9 : Addr}
    {C10 : Addr}
    {C11 : Addr}
    {od0 an0 : Option Addr} {sl0 : Array (Option Value)} {oc0 kV0 dc0 pm0 cd0 ct0 : Value}
    {od1 an1 : Option Addr} {sl1 : Array (Option Value)} {oc1 kV1 dc1 pm1 cd1 ct1 : Value}
    {od2 an2 : Option Addr} {sl2 : Array (Option Value)} {oc2 kV2 dc2 pm2 cd2 ct2 : Value}
    {od3 an3 : Option Addr} {sl3 : Array (Option Value)} {oc3 kV3 dc3 pm3 cd3 ct3 : Value}
    {od4 an4 : Option Addr} {sl4 : Array (Option Value)} {oc4 kV4 dc4 pm4 cd4 ct4 : Value}
    {od5 an5 : Option Addr} {sl5 : Array (Option Value)} {oc5 kV5 dc5 pm5 cd5 ct5 : Value}
    {od6 an6 : Option Addr} {sl6 : Array (Option Value)} {oc6 kV6 dc6 pm6 cd6 ct6 : Value}
    {od7 an7 : Option Addr} {sl7 : Array (Option Value)} {oc7 kV7 dc7 pm7 cd7 ct7 : Value}
    {od8 an8 : Option Addr} {sl8 : Array (Option Value)} {oc8 kV8 dc8 pm8 cd8 ct8 : Value}
    {od9 an9 : Option Addr} {sl9 : Array (Option Value)} {oc9 kV9 dc9 pm9 cd9 ct9 : Value}
    {od10 an10 : Option Addr} {sl10 : Array (Option Value)} {oc10 kV10 dc10 pm10 cd10 ct10 : Value}
    {od11 an11 : Option Addr} {sl11 : Array (Option Value)} {oc11 kV11 dc11 pm11 cd11 ct11 : Value}
    {od12 an12 : Option Addr} {sl12 : Array (Option Value)} {oc12 kV12 dc12 pm12 cd12 ct12 : Value}
    {od13 an13 : Option Addr} {sl13 : Array (Option Value)} {oc13 kV13 dc13 pm13 cd13 ct13 : Value}
    {od14 an14 : Option Addr} {sl14 : Array (Option Value)} {oc14 kV14 dc14 pm14 cd14 ct14 : Value}
    {od15 an15 : Option Addr} {sl15 : Array (Option Value)} {oc15 kV15 dc15 pm15 cd15 ct15 : Value}
    {dT15 dE15 : Addr} {oT15 : Value} {pT15 : Option Addr} {nT15 : Nat} {sT15 : Array (Option Value)}
    {pE15 : Option Addr} {nE15 : Nat} {sE15 : Array (Option Value)}
    {od16 an16 : Option Addr} {sl16 : Array (Option Value)} {oc16 kV16 dc16 pm16 cd16 ct16 : Value}
    {p16 : Addr} {rs16 : List Value}
    {od17 an17 : Option Addr} {sl17 : Array (Option Value)} {oc17 kV17 dc17 pm17 cd17 ct17 : Value}
    {od18 an18 : Option Addr} {sl18 : Array (Option Value)} {oc18 kV18 dc18 pm18 cd18 ct18 : Value}
    {od19 an19 : Option Addr} {sl19 : Array (Option Value)} {oc19 kV19 dc19 pm19 cd19 ct19 : Value}
    {od20 an20 : Option Addr} {sl20 : Array (Option Value)} {oc20 kV20 dc20 pm20 cd20 ct20 : Value}
    {od21 an21 : Option Addr} {sl21 : Array (Option Value)} {oc21 kV21 dc21 pm21 cd21 ct21 : Value}
    {od22 an22 : Option Addr} {sl22 : Array (Option Value)} {oc22 kV22 dc22 pm22 cd22 ct22 : Value}
    {p22 : Addr} {rs22 : List Value}
    {od23 an23 : Option Addr} {sl23 : Array (Option Value)} {oc23 kV23 dc23 pm23 cd23 ct23 : Value}
    {od24 an24 : Option Addr} {sl24 : Array (Option Value)} {oc24 kV24 dc24 pm24 cd24 ct24 : Value}
    {od25 an25 : Option Addr} {sl25 : Array (Option Value)} {oc25 kV25 dc25 pm25 cd25 ct25 : Value}
    {od26 an26 : Option Addr} {sl26 : Array (Option Value)} {oc26 kV26 dc26 pm26 cd26 ct26 : Value}
    {od27 an27 : Option Addr} {sl27 : Array (Option Value)} {oc27 kV27 dc27 pm27 cd27 ct27 : Value}
    {od28 an28 : Option Addr} {sl28 : Array (Option Value)} {oc28 kV28 dc28 pm28 cd28 ct28 : Value}
    {od29 an29 : Option Addr} {sl29 : Array (Option Value)} {oc29 kV29 dc29 pm29 cd29 ct29 : Value}
    {od30 an30 : Option Addr} {sl30 : Array (Option Value)} {oc30 kV30 dc30 pm30 cd30 ct30 : Value}
    {od31 an31 : Option Addr} {sl31 : Array (Option Value)} {oc31 kV31 dc31 pm31 cd31 ct31 : Value}
    {od32 an32 : Option Addr} {sl32 : Array (Option Value)} {oc32 kV32 dc32 pm32 cd32 ct32 : Value}
    {od33 an33 : Option Addr} {sl33 : Array (Option Value)} {oc33 kV33 dc33 pm33 cd33 ct33 : Value}
    {od34 an34 : Option Addr} {sl34 : Array (Option Value)} {oc34 kV34 dc34 pm34 cd34 ct34 : Value}
    {od35 an35 : Option Addr} {sl35 : Array (Option Value)} {oc35 kV35 dc35 pm35 ct35 : Value}
    {cL PL : Addr}
    {dL : Option Addr} {vL : Array Value} {sL : Array (Option Value)}
    {od36 an36 : Option Addr} {sl36 : Array (Option Value)} {oc36 kV36 dc36 pm36 cd36 ct36 : Value}
    {od37 an37 : Option Addr} {sl37 : Array (Option Value)} {oc37 kV37 dc37 pm37 cd37 ct37 : Value}
    {od38 an38 : Option Addr} {sl38 : Array (Option Value)} {oc38 kV38 dc38 pm38 cd38 ct38 : Value}
    {od39 an39 : Option Addr} {sl39 : Array (Option Value)} {oc39 kV39 dc39 pm39 cd39 ct39 : Value}
    {od40 an40 : Option Addr} {sl40 : Array (Option Value)} {oc40 kV40 dc40 pm40 cd40 ct40 : Value}
    {od41 an41 : Option Addr} {sl41 : Array (Option Value)} {oc41 kV41 dc41 pm41 cd41 ct41 : Value}
    {od42 an42 : Option Addr} {sl42 : Array (Option Value)} {oc42 kV42 dc42 pm42 cd42 ct42 : Value}
    {od43 an43 : Option Addr} {sl43 : Array (Option Value)} {oc43 kV43 dc43 pm43 cd43 ct43 : Value}
    {xn4 xq4 : Str} {xN4 : Addr} {xb4 xm4 : List Value} {xs4 : List Str} {xu4 : List Value} {xa4 : Bool} {xc4 : Option Bool} {xd4 : Option Addr} {x04 x14 x24 x34 x54 : Option Value}
    {xn5 xq5 : Str} {xN5 : Addr} {xb5 xm5 : List Value} {xs5 : List Str} {xu5 : List Value} {xa5 : Bool} {xc5 : Option Bool} {xd5 : Option Addr} {x05 x15 x25 x35 x55 : Option Value}
    {xn6 xq6 : Str} {xN6 : Addr} {xb6 xm6 : List Value} {xs6 : List Str} {xu6 : List Value} {xa6 : Bool} {xc6 : Option Bool} {xd6 : Option Addr} {x06 x16 x26 x36 x56 : Option Value}
    {xn7 xq7 : Str} {xN7 : Addr} {xb7 xm7 : List Value} {xs7 : List Str} {xu7 : List Value} {xa7 : Bool} {xc7 : Option Bool} {xd7 : Option Addr} {x07 x17 x27 x37 x57 : Option Value}
    {xn8 xq8 : Str} {xN8 : Addr} {xb8 xm8 : List Value} {xs8 : List Str} {xu8 : List Value} {xa8 : Bool} {xc8 : Option Bool} {xd8 : Option Addr} {x08 x18 x28 x38 x58 : Option Value}
    {xn9 xq9 : Str} {xN9 : Addr} {xb9 xm9 : List Value} {xs9 : List Str} {xu9 : List Value} {xa9 : Bool} {xc9 : Option Bool} {xd9 : Option Addr} {x09 x19 x29 x39 x59 : Option Value}
    {xn10 xq10 : Str} {xN10 : Addr} {xb10 xm10 : List Value} {xs10 : List Str} {xu10 : List Value} {xa10 : Bool} {xc10 : Option Bool} {xd10 : Option Addr} {x010 x110 x210 x310 x510 : Option Value}
    {xn11 xq11 : Str} {xN11 : Addr} {xb11 xm11 : List Value} {xs11 : List Str} {xu11 : List Value} {xa11 : Bool} {xc11 : Option Bool} {xd11 : Option Addr} {x011 x111 x211 x311 x511 : Option Value}
    {tk0 : Tok}
    {tk1 : Tok}
    {tk2 : Tok}
    {tk3 : Tok}
    {tk4 : Tok}
    {tk5 : Tok}
    {tk6 : Tok}
    {tk7 : Tok}
    {tk8 : Tok}
    {tv0 : Tok}
    (aC0 : PySem.W.nsIn K mainGlobals "Program" = some (some (.ref C0)))
    (aC1 : PySem.W.nsIn K mainGlobals "TwinError" = some (some (.ref C1)))
    (aC2 : PySem.W.nsIn K mainGlobals "Missing" = some (some (.ref C2)))
    (aC3 : PySem.W.nsIn K mainGlobals "NothingLeft" = some (some (.ref C3)))
    (aC4 : PySem.W.nsIn K mainGlobals "DuplicateName" = some (some (.ref C4)))
    (aC5 : PySem.W.nsIn K mainGlobals "DuplicateRule" = some (some (.ref C5)))
    (aC6 : PySem.W.nsIn K mainGlobals "InvalidCount" = some (some (.ref C6)))
    (aC7 : PySem.W.nsIn K mainGlobals "InvalidEvent" = some (some (.ref C7)))
    (aC8 : PySem.W.nsIn K mainGlobals "InvalidName" = some (some (.ref C8)))
    (aC9 : PySem.W.nsIn K mainGlobals "InvalidRule" = some (some (.ref C9)))
    (aC10 : PySem.W.nsIn K mainGlobals "InvalidState" = some (some (.ref C10)))
    (aC11 : PySem.W.nsIn K mainGlobals "TooWide" = some (some (.ref C11)))
    (a0 : PySem.W.nsIn K mainGlobals "_law_bag" = some (some (.ref f0)))
    (l0 : K.lookup f0 = some ⟨oc0, od0, .func (PySem.W.fnOf "_law_bag" "_law_bag" (defArgs s_bag) (defBody s_bag) (defScope s_bag) .none kV0 dc0 pm0 an0 cd0 ct0), sl0⟩)
    (c0 : PySem.W.codeIn K cd0 "_law_bag" = true)
    (k0 : PySem.W.keepIn K (.ref f0) = true)
    (a1 : PySem.W.nsIn K mainGlobals "_law_take" = some (some (.ref f1)))
    (l1 : K.lookup f1 = some ⟨oc1, od1, .func (PySem.W.fnOf "_law_take" "_law_take" (defArgs s_take) (defBody s_take) (defScope s_take) .none kV1 dc1 pm1 an1 cd1 ct1), sl1⟩)
    (c1 : PySem.W.codeIn K cd1 "_law_take" = true)
    (k1 : PySem.W.keepIn K (.ref f1) = true)
    (a2 : PySem.W.nsIn K mainGlobals "_law_of" = some (some (.ref f2)))
    (l2 : K.lookup f2 = some ⟨oc2, od2, .func (PySem.W.fnOf "_law_of" "_law_of" (defArgs s_of) (defBody s_of) (defScope s_of) .none kV2 dc2 pm2 an2 cd2 ct2), sl2⟩)
    (c2 : PySem.W.codeIn K cd2 "_law_of" = true)
    (k2 : PySem.W.keepIn K (.ref f2) = true)
    (a3 : PySem.W.nsIn K mainGlobals "_law_names" = some (some (.ref f3)))
    (l3 : K.lookup f3 = some ⟨oc3, od3, .func (PySem.W.fnOf "_law_names" "_law_names" (defArgs s_names) (defBody s_names) (defScope s_names) .none kV3 dc3 pm3 an3 cd3 ct3), sl3⟩)
    (c3 : PySem.W.codeIn K cd3 "_law_names" = true)
    (k3 : PySem.W.keepIn K (.ref f3) = true)
    (a4 : PySem.W.nsIn K mainGlobals "is_list" = some (some (.ref f4)))
    (l4 : K.lookup f4 = some ⟨oc4, od4, .func (PySem.W.fnOf "is_list" "is_list" (defArgs s_is_list) (defBody s_is_list) (defScope s_is_list) .none kV4 dc4 pm4 an4 cd4 ct4), sl4⟩)
    (c4 : PySem.W.codeIn K cd4 "is_list" = true)
    (k4 : PySem.W.keepIn K (.ref f4) = true)
    (a5 : PySem.W.nsIn K mainGlobals "is_name" = some (some (.ref f5)))
    (l5 : K.lookup f5 = some ⟨oc5, od5, .func (PySem.W.fnOf "is_name" "is_name" (defArgs s_is_name) (defBody s_is_name) (defScope s_is_name) .none kV5 dc5 pm5 an5 cd5 ct5), sl5⟩)
    (c5 : PySem.W.codeIn K cd5 "is_name" = true)
    (k5 : PySem.W.keepIn K (.ref f5) = true)
    (a6 : PySem.W.nsIn K mainGlobals "check_names" = some (some (.ref f6)))
    (l6 : K.lookup f6 = some ⟨oc6, od6, .func (PySem.W.fnOf "check_names" "check_names" (defArgs s_check_names) (defBody s_check_names) (defScope s_check_names) .none kV6 dc6 pm6 an6 cd6 ct6), sl6⟩)
    (c6 : PySem.W.codeIn K cd6 "check_names" = true)
    (k6 : PySem.W.keepIn K (.ref f6) = true)
    (a7 : PySem.W.nsIn K mainGlobals "check_different" = some (some (.ref f7)))
    (l7 : K.lookup f7 = some ⟨oc7, od7, .func (PySem.W.fnOf "check_different" "check_different" (defArgs s_check_different) (defBody s_check_different) (defScope s_check_different) .none kV7 dc7 pm7 an7 cd7 ct7), sl7⟩)
    (c7 : PySem.W.codeIn K cd7 "check_different" = true)
    (k7 : PySem.W.keepIn K (.ref f7) = true)
    (a8 : PySem.W.nsIn K mainGlobals "check_count" = some (some (.ref f8)))
    (l8 : K.lookup f8 = some ⟨oc8, od8, .func (PySem.W.fnOf "check_count" "check_count" (defArgs s_check_count) (defBody s_check_count) (defScope s_check_count) .none kV8 dc8 pm8 an8 cd8 ct8), sl8⟩)
    (c8 : PySem.W.codeIn K cd8 "check_count" = true)
    (k8 : PySem.W.keepIn K (.ref f8) = true)
    (a9 : PySem.W.nsIn K mainGlobals "are_pairs" = some (some (.ref f9)))
    (l9 : K.lookup f9 = some ⟨oc9, od9, .func (PySem.W.fnOf "are_pairs" "are_pairs" (defArgs s_are_pairs) (defBody s_are_pairs) (defScope s_are_pairs) .none kV9 dc9 pm9 an9 cd9 ct9), sl9⟩)
    (c9 : PySem.W.codeIn K cd9 "are_pairs" = true)
    (k9 : PySem.W.keepIn K (.ref f9) = true)
    (a10 : PySem.W.nsIn K mainGlobals "is_whole" = some (some (.ref f10)))
    (l10 : K.lookup f10 = some ⟨oc10, od10, .func (PySem.W.fnOf "is_whole" "is_whole" (defArgs s_is_whole) (defBody s_is_whole) (defScope s_is_whole) .none kV10 dc10 pm10 an10 cd10 ct10), sl10⟩)
    (c10 : PySem.W.codeIn K cd10 "is_whole" = true)
    (k10 : PySem.W.keepIn K (.ref f10) = true)
    (a11 : PySem.W.nsIn K mainGlobals "is_integer" = some (some (.ref f11)))
    (l11 : K.lookup f11 = some ⟨oc11, od11, .func (PySem.W.fnOf "is_integer" "is_integer" (defArgs s_is_integer) (defBody s_is_integer) (defScope s_is_integer) .none kV11 dc11 pm11 an11 cd11 ct11), sl11⟩)
    (c11 : PySem.W.codeIn K cd11 "is_integer" = true)
    (k11 : PySem.W.keepIn K (.ref f11) = true)
    (a12 : PySem.W.nsIn K mainGlobals "are_terms" = some (some (.ref f12)))
    (l12 : K.lookup f12 = some ⟨oc12, od12, .func (PySem.W.fnOf "are_terms" "are_terms" (defArgs s_are_terms) (defBody s_are_terms) (defScope s_are_terms) .none kV12 dc12 pm12 an12 cd12 ct12), sl12⟩)
    (c12 : PySem.W.codeIn K cd12 "are_terms" = true)
    (k12 : PySem.W.keepIn K (.ref f12) = true)
    (a13 : PySem.W.nsIn K mainGlobals "is_rule" = some (some (.ref f13)))
    (l13 : K.lookup f13 = some ⟨oc13, od13, .func (PySem.W.fnOf "is_rule" "is_rule" (defArgs s_is_rule) (defBody s_is_rule) (defScope s_is_rule) .none kV13 dc13 pm13 an13 cd13 ct13), sl13⟩)
    (c13 : PySem.W.codeIn K cd13 "is_rule" = true)
    (k13 : PySem.W.keepIn K (.ref f13) = true)
    (a14 : PySem.W.nsIn K mainGlobals "check_rules" = some (some (.ref f14)))
    (l14 : K.lookup f14 = some ⟨oc14, od14, .func (PySem.W.fnOf "check_rules" "check_rules" (defArgs s_check_rules) (defBody s_check_rules) (defScope s_check_rules) .none kV14 dc14 pm14 an14 cd14 ct14), sl14⟩)
    (c14 : PySem.W.codeIn K cd14 "check_rules" = true)
    (k14 : PySem.W.keepIn K (.ref f14) = true)
    (a15 : PySem.W.findIn K (.ref C0) "__init__" = some (some (.ref f15)))
    (i15 : PySem.W.isFn K (.ref f15) = true)
    (l15 : K.lookup f15 = some ⟨oc15, od15, .func (PySem.W.fnOf "__init__" "Program.__init__" (defArgs s_Program___init__) (defBody s_Program___init__) (defScope s_Program___init__) (.ref dT15) kV15 dc15 pm15 an15 cd15 ct15), sl15⟩)
    (lT15 : K.lookup dT15 = some ⟨oT15, pT15, .seq #[.ref dE15] nT15, sT15⟩)
    (lE15 : K.lookup dE15 = some ⟨.type "tuple", pE15, .seq #[] nE15, sE15⟩)
    (c15 : PySem.W.codeIn K cd15 "Program.__init__" = true)
    (k15 : PySem.W.keepIn K (.ref f15) = true)
    (a16 : PySem.W.findCls K (.ref C0) (.type "type") "idle" = some (.get (.builtin "classmethod.__get__") (.ref p16) .none (.ref C0)))
    (pr16 : PySem.W.recIn K p16 "classmethod" = some (.ref f16 :: rs16))
    (fi16 : PySem.W.fnIn K f16 = true)
    (l16 : K.lookup f16 = some ⟨oc16, od16, .func (PySem.W.fnOf "idle" "Program.idle" (defArgs s_Program_idle) (defBody s_Program_idle) (defScope s_Program_idle) .none kV16 dc16 pm16 an16 cd16 ct16), sl16⟩)
    (c16 : PySem.W.codeIn K cd16 "Program.idle" = true)
    (k16 : PySem.W.keepIn K (.ref f16) = true)
    (a17 : PySem.W.nsIn K mainGlobals "_law_same" = some (some (.ref f17)))
    (l17 : K.lookup f17 = some ⟨oc17, od17, .func (PySem.W.fnOf "_law_same" "_law_same" (defArgs s_same) (defBody s_same) (defScope s_same) .none kV17 dc17 pm17 an17 cd17 ct17), sl17⟩)
    (c17 : PySem.W.codeIn K cd17 "_law_same" = true)
    (k17 : PySem.W.keepIn K (.ref f17) = true)
    (a18 : PySem.W.findIn K (.ref C0) "modes" = some (some (.ref f18)))
    (i18 : PySem.W.isFn K (.ref f18) = true)
    (l18 : K.lookup f18 = some ⟨oc18, od18, .func (PySem.W.fnOf "modes" "Program.modes" (defArgs s_Program_modes) (defBody s_Program_modes) (defScope s_Program_modes) .none kV18 dc18 pm18 an18 cd18 ct18), sl18⟩)
    (c18 : PySem.W.codeIn K cd18 "Program.modes" = true)
    (k18 : PySem.W.keepIn K (.ref f18) = true)
    (a19 : PySem.W.findIn K (.ref C0) "registers" = some (some (.ref f19)))
    (i19 : PySem.W.isFn K (.ref f19) = true)
    (l19 : K.lookup f19 = some ⟨oc19, od19, .func (PySem.W.fnOf "registers" "Program.registers" (defArgs s_Program_registers) (defBody s_Program_registers) (defScope s_Program_registers) .none kV19 dc19 pm19 an19 cd19 ct19), sl19⟩)
    (c19 : PySem.W.codeIn K cd19 "Program.registers" = true)
    (k19 : PySem.W.keepIn K (.ref f19) = true)
    (a20 : PySem.W.findIn K (.ref C0) "signs" = some (some (.ref f20)))
    (i20 : PySem.W.isFn K (.ref f20) = true)
    (l20 : K.lookup f20 = some ⟨oc20, od20, .func (PySem.W.fnOf "signs" "Program.signs" (defArgs s_Program_signs) (defBody s_Program_signs) (defScope s_Program_signs) .none kV20 dc20 pm20 an20 cd20 ct20), sl20⟩)
    (c20 : PySem.W.codeIn K cd20 "Program.signs" = true)
    (k20 : PySem.W.keepIn K (.ref f20) = true)
    (a21 : PySem.W.findIn K (.ref C0) "rules" = some (some (.ref f21)))
    (i21 : PySem.W.isFn K (.ref f21) = true)
    (l21 : K.lookup f21 = some ⟨oc21, od21, .func (PySem.W.fnOf "rules" "Program.rules" (defArgs s_Program_rules) (defBody s_Program_rules) (defScope s_Program_rules) .none kV21 dc21 pm21 an21 cd21 ct21), sl21⟩)
    (c21 : PySem.W.codeIn K cd21 "Program.rules" = true)
    (k21 : PySem.W.keepIn K (.ref f21) = true)
    (a22 : PySem.W.findIn K (.ref C0) "width" = some (some (.ref p22)))
    (pg22 : PySem.W.specialIn K (.ref p22) "__get__" = some (some (.builtin "property.__get__")))
    (pt22 : PySem.W.takesIn K (.ref p22) = some true)
    (pr22 : PySem.W.recIn K p22 "property" = some (.ref f22 :: rs22))
    (l22 : K.lookup f22 = some ⟨oc22, od22, .func (PySem.W.fnOf "width" "Program.width" (defArgs s_Program_width) (defBody s_Program_width) (defScope s_Program_width) .none kV22 dc22 pm22 an22 cd22 ct22), sl22⟩)
    (c22 : PySem.W.codeIn K cd22 "Program.width" = true)
    (k22 : PySem.W.keepIn K (.ref f22) = true)
    (a23 : PySem.W.findIn K (.ref C0) "first_state" = some (some (.ref f23)))
    (i23 : PySem.W.isFn K (.ref f23) = true)
    (l23 : K.lookup f23 = some ⟨oc23, od23, .func (PySem.W.fnOf "first_state" "Program.first_state" (defArgs s_Program_first_state) (defBody s_Program_first_state) (defScope s_Program_first_state) .none kV23 dc23 pm23 an23 cd23 ct23), sl23⟩)
    (c23 : PySem.W.codeIn K cd23 "Program.first_state" = true)
    (k23 : PySem.W.keepIn K (.ref f23) = true)
    (a24 : PySem.W.findIn K (.ref C0) "is_state" = some (some (.ref f24)))
    (i24 : PySem.W.isFn K (.ref f24) = true)
    (l24 : K.lookup f24 = some ⟨oc24, od24, .func (PySem.W.fnOf "is_state" "Program.is_state" (defArgs s_Program_is_state) (defBody s_Program_is_state) (defScope s_Program_is_state) .none kV24 dc24 pm24 an24 cd24 ct24), sl24⟩)
    (c24 : PySem.W.codeIn K cd24 "Program.is_state" = true)
    (k24 : PySem.W.keepIn K (.ref f24) = true)
    (a25 : PySem.W.nsIn K mainGlobals "check_state" = some (some (.ref f25)))
    (l25 : K.lookup f25 = some ⟨oc25, od25, .func (PySem.W.fnOf "check_state" "check_state" (defArgs s_check_state) (defBody s_check_state) (defScope s_check_state) .none kV25 dc25 pm25 an25 cd25 ct25), sl25⟩)
    (c25 : PySem.W.codeIn K cd25 "check_state" = true)
    (k25 : PySem.W.keepIn K (.ref f25) = true)
    (a26 : PySem.W.findIn K (.ref C0) "is_event" = some (some (.ref f26)))
    (i26 : PySem.W.isFn K (.ref f26) = true)
    (l26 : K.lookup f26 = some ⟨oc26, od26, .func (PySem.W.fnOf "is_event" "Program.is_event" (defArgs s_Program_is_event) (defBody s_Program_is_event) (defScope s_Program_is_event) .none kV26 dc26 pm26 an26 cd26 ct26), sl26⟩)
    (c26 : PySem.W.codeIn K cd26 "Program.is_event" = true)
    (k26 : PySem.W.keepIn K (.ref f26) = true)
    (a27 : PySem.W.nsIn K mainGlobals "check_events" = some (some (.ref f27)))
    (l27 : K.lookup f27 = some ⟨oc27, od27, .func (PySem.W.fnOf "check_events" "check_events" (defArgs s_check_events) (defBody s_check_events) (defScope s_check_events) .none kV27 dc27 pm27 an27 cd27 ct27), sl27⟩)
    (c27 : PySem.W.codeIn K cd27 "check_events" = true)
    (k27 : PySem.W.keepIn K (.ref f27) = true)
    (a28 : PySem.W.findIn K (.ref C0) "_moved" = some (some (.ref f28)))
    (i28 : PySem.W.isFn K (.ref f28) = true)
    (l28 : K.lookup f28 = some ⟨oc28, od28, .func (PySem.W.fnOf "_moved" "Program._moved" (defArgs s_Program__moved) (defBody s_Program__moved) (defScope s_Program__moved) .none kV28 dc28 pm28 an28 cd28 ct28), sl28⟩)
    (c28 : PySem.W.codeIn K cd28 "Program._moved" = true)
    (k28 : PySem.W.keepIn K (.ref f28) = true)
    (a29 : PySem.W.findIn K (.ref C0) "run" = some (some (.ref f29)))
    (i29 : PySem.W.isFn K (.ref f29) = true)
    (l29 : K.lookup f29 = some ⟨oc29, od29, .func (PySem.W.fnOf "run" "Program.run" (defArgs s_Program_run) (defBody s_Program_run) (defScope s_Program_run) .none kV29 dc29 pm29 an29 cd29 ct29), sl29⟩)
    (c29 : PySem.W.codeIn K cd29 "Program.run" = true)
    (k29 : PySem.W.keepIn K (.ref f29) = true)
    (a30 : PySem.W.nsIn K mainGlobals "_law_bad_name" = some (some (.ref f30)))
    (l30 : K.lookup f30 = some ⟨oc30, od30, .func (PySem.W.fnOf "_law_bad_name" "_law_bad_name" (defArgs s_bad_name) (defBody s_bad_name) (defScope s_bad_name) .none kV30 dc30 pm30 an30 cd30 ct30), sl30⟩)
    (c30 : PySem.W.codeIn K cd30 "_law_bad_name" = true)
    (k30 : PySem.W.keepIn K (.ref f30) = true)
    (a31 : PySem.W.nsIn K mainGlobals "_law_fields" = some (some (.ref f31)))
    (l31 : K.lookup f31 = some ⟨oc31, od31, .func (PySem.W.fnOf "_law_fields" "_law_fields" (defArgs s_fields) (defBody s_fields) (defScope s_fields) .none kV31 dc31 pm31 an31 cd31 ct31), sl31⟩)
    (c31 : PySem.W.codeIn K cd31 "_law_fields" = true)
    (k31 : PySem.W.keepIn K (.ref f31) = true)
    (a32 : PySem.W.nsIn K mainGlobals "_law_got" = some (some (.ref f32)))
    (l32 : K.lookup f32 = some ⟨oc32, od32, .func (PySem.W.fnOf "_law_got" "_law_got" (defArgs s_got) (defBody s_got) (defScope s_got) .none kV32 dc32 pm32 an32 cd32 ct32), sl32⟩)
    (c32 : PySem.W.codeIn K cd32 "_law_got" = true)
    (k32 : PySem.W.keepIn K (.ref f32) = true)
    (a33 : PySem.W.nsIn K mainGlobals "_law_why" = some (some (.ref f33)))
    (l33 : K.lookup f33 = some ⟨oc33, od33, .func (PySem.W.fnOf "_law_why" "_law_why" (defArgs s_why) (defBody s_why) (defScope s_why) .none kV33 dc33 pm33 an33 cd33 ct33), sl33⟩)
    (c33 : PySem.W.codeIn K cd33 "_law_why" = true)
    (k33 : PySem.W.keepIn K (.ref f33) = true)
    (a34 : PySem.W.nsIn K mainGlobals "_law_whys" = some (some (.ref f34)))
    (l34 : K.lookup f34 = some ⟨oc34, od34, .func (PySem.W.fnOf "_law_whys" "_law_whys" (defArgs s_whys) (defBody s_whys) (defScope s_whys) .none kV34 dc34 pm34 an34 cd34 ct34), sl34⟩)
    (c34 : PySem.W.codeIn K cd34 "_law_whys" = true)
    (k34 : PySem.W.keepIn K (.ref f34) = true)
    (a35 : PySem.W.nsIn K mainGlobals "law" = some (some (.ref f35)))
    (l35 : K.lookup f35 = some ⟨oc35, od35, .func (PySem.W.fnOf "law" "law" (defArgs s_law) (defBody s_law) (defScope s_law) .none kV35 dc35 pm35 an35 (.ref cL) ct35), sl35⟩)
    (c35 : PySem.W.codeIn K (.ref cL) "law" = true)
    (k35 : PySem.W.keepIn K (.ref f35) = true)
    (gL : K.lookup cL = some ⟨.type "code", dL, .fields vL, sL⟩)
    (gL11 : vL[11]? = some (.ref PL))
    (gL18 : ∃ a t, vL.getD 18 .none = .str a t)
    (gL7 : ∃ a t, vL.getD 7 .none = .int a t)
    (gL9 : ∃ a, vL.getD 9 .none = .bool a)
    (gL10 : ∃ a t, vL.getD 10 .none = .int a t)
    (gLne : cL ≠ PL)
    (nL : K.lookup PL = none)
    (a36 : PySem.W.findIn K (.ref C4) "__init__" = some (some (.ref f36)))
    (i36 : PySem.W.isFn K (.ref f36) = true)
    (l36 : K.lookup f36 = some ⟨oc36, od36, .func (PySem.W.fnOf "__init__" "DuplicateName.__init__" (defArgs s_DuplicateName___init__) (defBody s_DuplicateName___init__) (defScope s_DuplicateName___init__) .none kV36 dc36 pm36 an36 cd36 ct36), sl36⟩)
    (c36 : PySem.W.codeIn K cd36 "DuplicateName.__init__" = true)
    (k36 : PySem.W.keepIn K (.ref f36) = true)
    (a37 : PySem.W.findIn K (.ref C5) "__init__" = some (some (.ref f37)))
    (i37 : PySem.W.isFn K (.ref f37) = true)
    (l37 : K.lookup f37 = some ⟨oc37, od37, .func (PySem.W.fnOf "__init__" "DuplicateRule.__init__" (defArgs s_DuplicateRule___init__) (defBody s_DuplicateRule___init__) (defScope s_DuplicateRule___init__) .none kV37 dc37 pm37 an37 cd37 ct37), sl37⟩)
    (c37 : PySem.W.codeIn K cd37 "DuplicateRule.__init__" = true)
    (k37 : PySem.W.keepIn K (.ref f37) = true)
    (a38 : PySem.W.findIn K (.ref C6) "__init__" = some (some (.ref f38)))
    (i38 : PySem.W.isFn K (.ref f38) = true)
    (l38 : K.lookup f38 = some ⟨oc38, od38, .func (PySem.W.fnOf "__init__" "InvalidCount.__init__" (defArgs s_InvalidCount___init__) (defBody s_InvalidCount___init__) (defScope s_InvalidCount___init__) .none kV38 dc38 pm38 an38 cd38 ct38), sl38⟩)
    (c38 : PySem.W.codeIn K cd38 "InvalidCount.__init__" = true)
    (k38 : PySem.W.keepIn K (.ref f38) = true)
    (a39 : PySem.W.findIn K (.ref C7) "__init__" = some (some (.ref f39)))
    (i39 : PySem.W.isFn K (.ref f39) = true)
    (l39 : K.lookup f39 = some ⟨oc39, od39, .func (PySem.W.fnOf "__init__" "InvalidEvent.__init__" (defArgs s_InvalidEvent___init__) (defBody s_InvalidEvent___init__) (defScope s_InvalidEvent___init__) .none kV39 dc39 pm39 an39 cd39 ct39), sl39⟩)
    (c39 : PySem.W.codeIn K cd39 "InvalidEvent.__init__" = true)
    (k39 : PySem.W.keepIn K (.ref f39) = true)
    (a40 : PySem.W.findIn K (.ref C8) "__init__" = some (some (.ref f40)))
    (i40 : PySem.W.isFn K (.ref f40) = true)
    (l40 : K.lookup f40 = some ⟨oc40, od40, .func (PySem.W.fnOf "__init__" "InvalidName.__init__" (defArgs s_InvalidName___init__) (defBody s_InvalidName___init__) (defScope s_InvalidName___init__) .none kV40 dc40 pm40 an40 cd40 ct40), sl40⟩)
    (c40 : PySem.W.codeIn K cd40 "InvalidName.__init__" = true)
    (k40 : PySem.W.keepIn K (.ref f40) = true)
    (a41 : PySem.W.findIn K (.ref C9) "__init__" = some (some (.ref f41)))
    (i41 : PySem.W.isFn K (.ref f41) = true)
    (l41 : K.lookup f41 = some ⟨oc41, od41, .func (PySem.W.fnOf "__init__" "InvalidRule.__init__" (defArgs s_InvalidRule___init__) (defBody s_InvalidRule___init__) (defScope s_InvalidRule___init__) .none kV41 dc41 pm41 an41 cd41 ct41), sl41⟩)
    (c41 : PySem.W.codeIn K cd41 "InvalidRule.__init__" = true)
    (k41 : PySem.W.keepIn K (.ref f41) = true)
    (a42 : PySem.W.findIn K (.ref C10) "__init__" = some (some (.ref f42)))
    (i42 : PySem.W.isFn K (.ref f42) = true)
    (l42 : K.lookup f42 = some ⟨oc42, od42, .func (PySem.W.fnOf "__init__" "InvalidState.__init__" (defArgs s_InvalidState___init__) (defBody s_InvalidState___init__) (defScope s_InvalidState___init__) .none kV42 dc42 pm42 an42 cd42 ct42), sl42⟩)
    (c42 : PySem.W.codeIn K cd42 "InvalidState.__init__" = true)
    (k42 : PySem.W.keepIn K (.ref f42) = true)
    (a43 : PySem.W.findIn K (.ref C11) "__init__" = some (some (.ref f43)))
    (i43 : PySem.W.isFn K (.ref f43) = true)
    (l43 : K.lookup f43 = some ⟨oc43, od43, .func (PySem.W.fnOf "__init__" "TooWide.__init__" (defArgs s_TooWide___init__) (defBody s_TooWide___init__) (defScope s_TooWide___init__) .none kV43 dc43 pm43 an43 cd43 ct43), sl43⟩)
    (c43 : PySem.W.codeIn K cd43 "TooWide.__init__" = true)
    (k43 : PySem.W.keepIn K (.ref f43) = true)
    (xl4 : K.lookup C4 = some (excClassObj xn4 xq4 C4 xN4 xb4 xm4 true xs4 xu4 xa4 xc4 xd4 x04 x14 x24 x34 x54 "ValueError.__new__"))
    (xr4 : PySem.HandSPX.refsVE xm4 = true)
    (xsa4 : PySem.W.findIn K (.ref C4) "__setattr__" = some (some (.builtin "object.__setattr__")))
    (xsu4 : PySem.W.subIn K (.ref C4) (.type "BaseException") = some true)
    (xty4 : PySem.W.typeIn K (.ref C4) = some (.type "type"))
    (xk4 : PySem.W.keepIn K (.ref C4) = true)
    (xga4 : PySem.W.findIn K (.ref C4) "__getattribute__" = some (some (.builtin "BaseException.__getattribute__")))
    (xgg4 : PySem.W.findIn K (.ref C4) "__getattr__" = some none)
    (xhd4 : PySem.W.hasDictIn K C4 = true)
    (xti4 : PySem.W.typeIn K (.ref f36) = some (.type "function"))
    (xf4_code : PySem.W.findIn K (.ref C4) "code" = some none)
    (xf4_name : PySem.W.findIn K (.ref C4) "name" = some none)
    (xm4_ : PySem.W.exmAny K (.ref C4) [.ref C1, .ref C2, .ref C3] = some true)
    (xl5 : K.lookup C5 = some (excClassObj xn5 xq5 C5 xN5 xb5 xm5 true xs5 xu5 xa5 xc5 xd5 x05 x15 x25 x35 x55 "ValueError.__new__"))
    (xr5 : PySem.HandSPX.refsVE xm5 = true)
    (xsa5 : PySem.W.findIn K (.ref C5) "__setattr__" = some (some (.builtin "object.__setattr__")))
    (xsu5 : PySem.W.subIn K (.ref C5) (.type "BaseException") = some true)
    (xty5 : PySem.W.typeIn K (.ref C5) = some (.type "type"))
    (xk5 : PySem.W.keepIn K (.ref C5) = true)
    (xga5 : PySem.W.findIn K (.ref C5) "__getattribute__" = some (some (.builtin "BaseException.__getattribute__")))
    (xgg5 : PySem.W.findIn K (.ref C5) "__getattr__" = some none)
    (xhd5 : PySem.W.hasDictIn K C5 = true)
    (xti5 : PySem.W.typeIn K (.ref f37) = some (.type "function"))
    (xf5_code : PySem.W.findIn K (.ref C5) "code" = some none)
    (xf5_index : PySem.W.findIn K (.ref C5) "index" = some none)
    (xm5_ : PySem.W.exmAny K (.ref C5) [.ref C1, .ref C2, .ref C3] = some true)
    (xl6 : K.lookup C6 = some (excClassObj xn6 xq6 C6 xN6 xb6 xm6 true xs6 xu6 xa6 xc6 xd6 x06 x16 x26 x36 x56 "ValueError.__new__"))
    (xr6 : PySem.HandSPX.refsVE xm6 = true)
    (xsa6 : PySem.W.findIn K (.ref C6) "__setattr__" = some (some (.builtin "object.__setattr__")))
    (xsu6 : PySem.W.subIn K (.ref C6) (.type "BaseException") = some true)
    (xty6 : PySem.W.typeIn K (.ref C6) = some (.type "type"))
    (xk6 : PySem.W.keepIn K (.ref C6) = true)
    (xga6 : PySem.W.findIn K (.ref C6) "__getattribute__" = some (some (.builtin "BaseException.__getattribute__")))
    (xgg6 : PySem.W.findIn K (.ref C6) "__getattr__" = some none)
    (xhd6 : PySem.W.hasDictIn K C6 = true)
    (xti6 : PySem.W.typeIn K (.ref f38) = some (.type "function"))
    (xf6_code : PySem.W.findIn K (.ref C6) "code" = some none)
    (xf6_given : PySem.W.findIn K (.ref C6) "given" = some none)
    (xm6_ : PySem.W.exmAny K (.ref C6) [.ref C1, .ref C2, .ref C3] = some true)
    (xl7 : K.lookup C7 = some (excClassObj xn7 xq7 C7 xN7 xb7 xm7 true xs7 xu7 xa7 xc7 xd7 x07 x17 x27 x37 x57 "ValueError.__new__"))
    (xr7 : PySem.HandSPX.refsVE xm7 = true)
    (xsa7 : PySem.W.findIn K (.ref C7) "__setattr__" = some (some (.builtin "object.__setattr__")))
    (xsu7 : PySem.W.subIn K (.ref C7) (.type "BaseException") = some true)
    (xty7 : PySem.W.typeIn K (.ref C7) = some (.type "type"))
    (xk7 : PySem.W.keepIn K (.ref C7) = true)
    (xga7 : PySem.W.findIn K (.ref C7) "__getattribute__" = some (some (.builtin "BaseException.__getattribute__")))
    (xgg7 : PySem.W.findIn K (.ref C7) "__getattr__" = some none)
    (xhd7 : PySem.W.hasDictIn K C7 = true)
    (xti7 : PySem.W.typeIn K (.ref f39) = some (.type "function"))
    (xf7_code : PySem.W.findIn K (.ref C7) "code" = some none)
    (xf7_index : PySem.W.findIn K (.ref C7) "index" = some none)
    (xm7_ : PySem.W.exmAny K (.ref C7) [.ref C1, .ref C2, .ref C3] = some true)
    (xl8 : K.lookup C8 = some (excClassObj xn8 xq8 C8 xN8 xb8 xm8 true xs8 xu8 xa8 xc8 xd8 x08 x18 x28 x38 x58 "ValueError.__new__"))
    (xr8 : PySem.HandSPX.refsVE xm8 = true)
    (xsa8 : PySem.W.findIn K (.ref C8) "__setattr__" = some (some (.builtin "object.__setattr__")))
    (xsu8 : PySem.W.subIn K (.ref C8) (.type "BaseException") = some true)
    (xty8 : PySem.W.typeIn K (.ref C8) = some (.type "type"))
    (xk8 : PySem.W.keepIn K (.ref C8) = true)
    (xga8 : PySem.W.findIn K (.ref C8) "__getattribute__" = some (some (.builtin "BaseException.__getattribute__")))
    (xgg8 : PySem.W.findIn K (.ref C8) "__getattr__" = some none)
    (xhd8 : PySem.W.hasDictIn K C8 = true)
    (xti8 : PySem.W.typeIn K (.ref f40) = some (.type "function"))
    (xf8_code : PySem.W.findIn K (.ref C8) "code" = some none)
    (xf8_given : PySem.W.findIn K (.ref C8) "given" = some none)
    (xm8_ : PySem.W.exmAny K (.ref C8) [.ref C1, .ref C2, .ref C3] = some true)
    (xl9 : K.lookup C9 = some (excClassObj xn9 xq9 C9 xN9 xb9 xm9 true xs9 xu9 xa9 xc9 xd9 x09 x19 x29 x39 x59 "ValueError.__new__"))
    (xr9 : PySem.HandSPX.refsVE xm9 = true)
    (xsa9 : PySem.W.findIn K (.ref C9) "__setattr__" = some (some (.builtin "object.__setattr__")))
    (xsu9 : PySem.W.subIn K (.ref C9) (.type "BaseException") = some true)
    (xty9 : PySem.W.typeIn K (.ref C9) = some (.type "type"))
    (xk9 : PySem.W.keepIn K (.ref C9) = true)
    (xga9 : PySem.W.findIn K (.ref C9) "__getattribute__" = some (some (.builtin "BaseException.__getattribute__")))
    (xgg9 : PySem.W.findIn K (.ref C9) "__getattr__" = some none)
    (xhd9 : PySem.W.hasDictIn K C9 = true)
    (xti9 : PySem.W.typeIn K (.ref f41) = some (.type "function"))
    (xf9_code : PySem.W.findIn K (.ref C9) "code" = some none)
    (xf9_index : PySem.W.findIn K (.ref C9) "index" = some none)
    (xm9_ : PySem.W.exmAny K (.ref C9) [.ref C1, .ref C2, .ref C3] = some true)
    (xl10 : K.lookup C10 = some (excClassObj xn10 xq10 C10 xN10 xb10 xm10 true xs10 xu10 xa10 xc10 xd10 x010 x110 x210 x310 x510 "ValueError.__new__"))
    (xr10 : PySem.HandSPX.refsVE xm10 = true)
    (xsa10 : PySem.W.findIn K (.ref C10) "__setattr__" = some (some (.builtin "object.__setattr__")))
    (xsu10 : PySem.W.subIn K (.ref C10) (.type "BaseException") = some true)
    (xty10 : PySem.W.typeIn K (.ref C10) = some (.type "type"))
    (xk10 : PySem.W.keepIn K (.ref C10) = true)
    (xga10 : PySem.W.findIn K (.ref C10) "__getattribute__" = some (some (.builtin "BaseException.__getattribute__")))
    (xgg10 : PySem.W.findIn K (.ref C10) "__getattr__" = some none)
    (xhd10 : PySem.W.hasDictIn K C10 = true)
    (xti10 : PySem.W.typeIn K (.ref f42) = some (.type "function"))
    (xf10_code : PySem.W.findIn K (.ref C10) "code" = some none)
    (xm10_ : PySem.W.exmAny K (.ref C10) [.ref C1, .ref C2, .ref C3] = some true)
    (xl11 : K.lookup C11 = some (excClassObj xn11 xq11 C11 xN11 xb11 xm11 true xs11 xu11 xa11 xc11 xd11 x011 x111 x211 x311 x511 "ValueError.__new__"))
    (xr11 : PySem.HandSPX.refsVE xm11 = true)
    (xsa11 : PySem.W.findIn K (.ref C11) "__setattr__" = some (some (.builtin "object.__setattr__")))
    (xsu11 : PySem.W.subIn K (.ref C11) (.type "BaseException") = some true)
    (xty11 : PySem.W.typeIn K (.ref C11) = some (.type "type"))
    (xk11 : PySem.W.keepIn K (.ref C11) = true)
    (xga11 : PySem.W.findIn K (.ref C11) "__getattribute__" = some (some (.builtin "BaseException.__getattribute__")))
    (xgg11 : PySem.W.findIn K (.ref C11) "__getattr__" = some none)
    (xhd11 : PySem.W.hasDictIn K C11 = true)
    (xti11 : PySem.W.typeIn K (.ref f43) = some (.type "function"))
    (xf11_code : PySem.W.findIn K (.ref C11) "code" = some none)
    (xf11_most : PySem.W.findIn K (.ref C11) "most" = some none)
    (xm11_ : PySem.W.exmAny K (.ref C11) [.ref C1, .ref C2, .ref C3] = some true)
    (z0 : PySem.W.nsIn K mainGlobals "all" = some none)
    (z1 : PySem.W.nsIn K mainGlobals "bool" = some none)
    (z2 : PySem.W.nsIn K mainGlobals "enumerate" = some none)
    (z3 : PySem.W.nsIn K mainGlobals "int" = some none)
    (z4 : PySem.W.nsIn K mainGlobals "isinstance" = some none)
    (z5 : PySem.W.nsIn K mainGlobals "len" = some none)
    (z6 : PySem.W.nsIn K mainGlobals "list" = some none)
    (z7 : PySem.W.nsIn K mainGlobals "range" = some none)
    (z8 : PySem.W.nsIn K mainGlobals "str" = some none)
    (z9 : PySem.W.nsIn K mainGlobals "sum" = some none)
    (z10 : PySem.W.nsIn K mainGlobals "tuple" = some none)
    (z11 : PySem.W.nsIn K mainGlobals "zip" = some none)
    (x0 : PySem.W.nsIn K mainGlobals "AMOUNT" = some (some (.str "amount" tk0)))
    (x1 : PySem.W.nsIn K mainGlobals "LETTERS" = some (some (.str "abcdefghijklmnopqrstuvwxyz" tk1)))
    (x2 : PySem.W.nsIn K mainGlobals "MOST_AMOUNT" = some (some (.int 1000000000000 tk2)))
    (x3 : PySem.W.nsIn K mainGlobals "MOST_FACTOR" = some (some (.int 1000 tk3)))
    (x4 : PySem.W.nsIn K mainGlobals "MOST_LETTERS" = some (some (.int 6 tk4)))
    (x5 : PySem.W.nsIn K mainGlobals "MOST_MODES" = some (some (.int 4 tk5)))
    (x6 : PySem.W.nsIn K mainGlobals "MOST_REGISTERS" = some (some (.int 4 tk6)))
    (x7 : PySem.W.nsIn K mainGlobals "MOST_SIGNS" = some (some (.int 6 tk7)))
    (x8 : PySem.W.nsIn K mainGlobals "ONE" = some (some (.str "one" tk8)))
    (Pg0 : PySem.W.plainGet K C0 Str.empty = true)
    (Hd0 : PySem.W.hasDictIn K C0 = true)
    (Po0 : PySem.W.plainOver K C0 = true)
    (Sa0 : PySem.W.findIn K (.ref C0) "__setattr__" = some (some (.builtin "object.__setattr__")))
    (Rd0 : PySem.W.readsIn K C0 (.type "type") = true)
    (Ga0 : PySem.W.specialIn K (.ref C0) "__getattribute__" = some (some (.builtin "type.__getattribute__")))
    (na0 : PySem.W.findIn K (.ref C0) "_modes" = some none)
    (na1 : PySem.W.findIn K (.ref C0) "_registers" = some none)
    (na2 : PySem.W.findIn K (.ref C0) "_rule_for" = some none)
    (na3 : PySem.W.findIn K (.ref C0) "_rules" = some none)
    (na4 : PySem.W.findIn K (.ref C0) "_signs" = some none)
    (cv0 : PySem.W.findCls K (.ref C0) (.type "type") "MOST_WIDTH" = some (.val (.int 8 tv0)))
    (mk15 : PySem.W.makesIn K C0 = true)
    (kc15 : PySem.W.keepIn K (.ref C0) = true)
    (own : LamX.OwnTab K fa h)
    : LamX.LawAtS l w K CX0 13 63 "_law_script" mg fa h := by
  have e := hfa.symm.trans (PySem.W.mg_of X G a35)
  cases e
  let Z : Fc K mg := {
    C_DuplicateName := C4,
    mg_DuplicateName := PySem.W.mg_of X G aC4,
    ox_DuplicateName := ⟨⟨_, _, _, _, _, _, _, _, _, _, _, _, _, _, _, xl4, xr4⟩, xsa4, xsu4, xty4, xk4⟩,
    xf_DuplicateName := ⟨xga4, xgg4, xsu4, xhd4⟩,
    ic_DuplicateName := a36,
    ti_DuplicateName := xti4,
    nf_DuplicateName_code := xf4_code,
    nf_DuplicateName_name := xf4_name,
    xm_DuplicateName := xm4_,
    C_DuplicateRule := C5,
    mg_DuplicateRule := PySem.W.mg_of X G aC5,
    ox_DuplicateRule := ⟨⟨_, _, _, _, _, _, _, _, _, _, _, _, _, _, _, xl5, xr5⟩, xsa5, xsu5, xty5, xk5⟩,
    xf_DuplicateRule := ⟨xga5, xgg5, xsu5, xhd5⟩,
    ic_DuplicateRule := a37,
    ti_DuplicateRule := xti5,
    nf_DuplicateRule_code := xf5_code,
    nf_DuplicateRule_index := xf5_index,
    xm_DuplicateRule := xm5_,
    C_InvalidCount := C6,
    mg_InvalidCount := PySem.W.mg_of X G aC6,
    ox_InvalidCount := ⟨⟨_, _, _, _, _, _, _, _, _, _, _, _, _, _, _, xl6, xr6⟩, xsa6, xsu6, xty6, xk6⟩,
    xf_InvalidCount := ⟨xga6, xgg6, xsu6, xhd6⟩,
    ic_InvalidCount := a38,
    ti_InvalidCount := xti6,
    nf_InvalidCount_code := xf6_code,
    nf_InvalidCount_given := xf6_given,
    xm_InvalidCount := xm6_,
    C_InvalidEvent := C7,
    mg_InvalidEvent := PySem.W.mg_of X G aC7,
    ox_InvalidEvent := ⟨⟨_, _, _, _, _, _, _, _, _, _, _, _, _, _, _, xl7, xr7⟩, xsa7, xsu7, xty7, xk7⟩,
    xf_InvalidEvent := ⟨xga7, xgg7, xsu7, xhd7⟩,
    ic_InvalidEvent := a39,
    ti_InvalidEvent := xti7,
    nf_InvalidEvent_code := xf7_code,
    nf_InvalidEvent_index := xf7_index,
    xm_InvalidEvent := xm7_,
    C_InvalidName := C8,
    mg_InvalidName := PySem.W.mg_of X G aC8,
    ox_InvalidName := ⟨⟨_, _, _, _, _, _, _, _, _, _, _, _, _, _, _, xl8, xr8⟩, xsa8, xsu8, xty8, xk8⟩,
    xf_InvalidName := ⟨xga8, xgg8, xsu8, xhd8⟩,
    ic_InvalidName := a40,
    ti_InvalidName := xti8,
    nf_InvalidName_code := xf8_code,
    nf_InvalidName_given := xf8_given,
    xm_InvalidName := xm8_,
    C_InvalidRule := C9,
    mg_InvalidRule := PySem.W.mg_of X G aC9,
    ox_InvalidRule := ⟨⟨_, _, _, _, _, _, _, _, _, _, _, _, _, _, _, xl9, xr9⟩, xsa9, xsu9, xty9, xk9⟩,
    xf_InvalidRule := ⟨xga9, xgg9, xsu9, xhd9⟩,
    ic_InvalidRule := a41,
    ti_InvalidRule := xti9,
    nf_InvalidRule_code := xf9_code,
    nf_InvalidRule_index := xf9_index,
    xm_InvalidRule := xm9_,
    C_InvalidState := C10,
    mg_InvalidState := PySem.W.mg_of X G aC10,
    ox_InvalidState := ⟨⟨_, _, _, _, _, _, _, _, _, _, _, _, _, _, _, xl10, xr10⟩, xsa10, xsu10, xty10, xk10⟩,
    xf_InvalidState := ⟨xga10, xgg10, xsu10, xhd10⟩,
    ic_InvalidState := a42,
    ti_InvalidState := xti10,
    nf_InvalidState_code := xf10_code,
    xm_InvalidState := xm10_,
    C_TooWide := C11,
    mg_TooWide := PySem.W.mg_of X G aC11,
    ox_TooWide := ⟨⟨_, _, _, _, _, _, _, _, _, _, _, _, _, _, _, xl11, xr11⟩, xsa11, xsu11, xty11, xk11⟩,
    xf_TooWide := ⟨xga11, xgg11, xsu11, xhd11⟩,
    ic_TooWide := a43,
    ti_TooWide := xti11,
    nf_TooWide_code := xf11_code,
    nf_TooWide_most := xf11_most,
    xm_TooWide := xm11_,
    C_TwinError := C1,
    mg_TwinError := PySem.W.mg_of X G aC1,
    C_Missing := C2,
    mg_Missing := PySem.W.mg_of X G aC2,
    C_NothingLeft := C3,
    mg_NothingLeft := PySem.W.mg_of X G aC3,
    z_all := PySem.W.mg_none_of X G z0,
    z_bool := PySem.W.mg_none_of X G z1,
    z_enumerate := PySem.W.mg_none_of X G z2,
    z_int := PySem.W.mg_none_of X G z3,
    z_isinstance := PySem.W.mg_none_of X G z4,
    z_len := PySem.W.mg_none_of X G z5,
    z_list := PySem.W.mg_none_of X G z6,
    z_range := PySem.W.mg_none_of X G z7,
    z_str := PySem.W.mg_none_of X G z8,
    z_sum := PySem.W.mg_none_of X G z9,
    z_tuple := PySem.W.mg_none_of X G z10,
    z_zip := PySem.W.mg_none_of X G z11,
    t_AMOUNT := tk0,
    c_AMOUNT := PySem.W.mg_of X G x0,
    t_LETTERS := tk1,
    c_LETTERS := PySem.W.mg_of X G x1,
    t_MOST_AMOUNT := tk2,
    c_MOST_AMOUNT := PySem.W.mg_of X G x2,
    t_MOST_FACTOR := tk3,
    c_MOST_FACTOR := PySem.W.mg_of X G x3,
    t_MOST_LETTERS := tk4,
    c_MOST_LETTERS := PySem.W.mg_of X G x4,
    t_MOST_MODES := tk5,
    c_MOST_MODES := PySem.W.mg_of X G x5,
    t_MOST_REGISTERS := tk6,
    c_MOST_REGISTERS := PySem.W.mg_of X G x6,
    t_MOST_SIGNS := tk7,
    c_MOST_SIGNS := PySem.W.mg_of X G x7,
    t_ONE := tk8,
    c_ONE := PySem.W.mg_of X G x8,
    C_Program := C0,
    cl_Program := ⟨Pg0, Hd0, Po0, Sa0⟩,
    mg_Program := PySem.W.mg_of X G aC0,
    mc_Program := .type "type",
    cr_Program := ⟨Rd0, Ga0⟩,
    na_Program__modes := na0,
    na_Program__registers := na1,
    na_Program__rule_for := na2,
    na_Program__rules := na3,
    na_Program__signs := na4,
    tv_Program_MOST_WIDTH := tv0,
    cv_Program_MOST_WIDTH := ⟨cv0, ⟨_, rfl⟩⟩,
    pm_Program_idle := p16,
    cm_Program_idle := ⟨a16, ⟨_, pr16⟩, fi16⟩,
    mk_Program := ⟨mk15, a15, i15, kc15⟩,
    me_Program__moved := ⟨a28, i28, k28⟩,
    me_Program_first_state := ⟨a23, i23, k23⟩,
    me_Program_is_event := ⟨a26, i26, k26⟩,
    me_Program_is_state := ⟨a24, i24, k24⟩,
    me_Program_modes := ⟨a18, i18, k18⟩,
    me_Program_registers := ⟨a19, i19, k19⟩,
    me_Program_rules := ⟨a21, i21, k21⟩,
    me_Program_run := ⟨a29, i29, k29⟩,
    me_Program_signs := ⟨a20, i20, k20⟩,
    pa_Program_width := p22,
    pr_Program_width := ⟨a22, pg22, pt22, _, pr22⟩,
    a_bag := f0,
    fd_bag := _,
    F_bag := fun_mk (st := s_bag) l0 c0 k0,
    g_bag := PySem.W.mg_of X G a0,
    b_bag := (fun_mk (st := s_bag) l0 c0 k0).binds (ps := P_bag) fun _ _ _ _ _ _ us hl => match us, hl with | [_], _ => rfl,
    a_take := f1,
    fd_take := _,
    F_take := fun_mk (st := s_take) l1 c1 k1,
    g_take := PySem.W.mg_of X G a1,
    b_take := (fun_mk (st := s_take) l1 c1 k1).binds (ps := P_take) fun _ _ _ _ _ _ us hl => match us, hl with | [_, _], _ => rfl,
    a_of := f2,
    fd_of := _,
    F_of := fun_mk (st := s_of) l2 c2 k2,
    g_of := PySem.W.mg_of X G a2,
    b_of := (fun_mk (st := s_of) l2 c2 k2).binds (ps := P_of) fun _ _ _ _ _ _ us hl => match us, hl with | [_, _], _ => rfl,
    a_names := f3,
    fd_names := _,
    F_names := fun_mk (st := s_names) l3 c3 k3,
    g_names := PySem.W.mg_of X G a3,
    b_names := (fun_mk (st := s_names) l3 c3 k3).binds (ps := P_names) fun _ _ _ _ _ _ us hl => match us, hl with | [_, _], _ => rfl,
    a_is_list := f4,
    fd_is_list := _,
    F_is_list := fun_mk (st := s_is_list) l4 c4 k4,
    g_is_list := PySem.W.mg_of X G a4,
    b_is_list := (fun_mk (st := s_is_list) l4 c4 k4).binds (ps := P_is_list) fun _ _ _ _ _ _ us hl => match us, hl with | [_], _ => rfl,
    a_is_name := f5,
    fd_is_name := _,
    F_is_name := fun_mk (st := s_is_name) l5 c5 k5,
    g_is_name := PySem.W.mg_of X G a5,
    b_is_name := (fun_mk (st := s_is_name) l5 c5 k5).binds (ps := P_is_name) fun _ _ _ _ _ _ us hl => match us, hl with | [_], _ => rfl,
    a_check_names := f6,
    fd_check_names := _,
    F_check_names := fun_mk (st := s_check_names) l6 c6 k6,
    g_check_names := PySem.W.mg_of X G a6,
    b_check_names := (fun_mk (st := s_check_names) l6 c6 k6).binds (ps := P_check_names) fun _ _ _ _ _ _ us hl => match us, hl with | [_], _ => rfl,
    a_check_different := f7,
    fd_check_different := _,
    F_check_different := fun_mk (st := s_check_different) l7 c7 k7,
    g_check_different := PySem.W.mg_of X G a7,
    b_check_different := (fun_mk (st := s_check_different) l7 c7 k7).binds (ps := P_check_different) fun _ _ _ _ _ _ us hl => match us, hl with | [_], _ => rfl,
    a_check_count := f8,
    fd_check_count := _,
    F_check_count := fun_mk (st := s_check_count) l8 c8 k8,
    g_check_count := PySem.W.mg_of X G a8,
    b_check_count := (fun_mk (st := s_check_count) l8 c8 k8).binds (ps := P_check_count) fun _ _ _ _ _ _ us hl => match us, hl with | [_, _, _], _ => rfl,
    a_are_pairs := f9,
    fd_are_pairs := _,
    F_are_pairs := fun_mk (st := s_are_pairs) l9 c9 k9,
    g_are_pairs := PySem.W.mg_of X G a9,
    b_are_pairs := (fun_mk (st := s_are_pairs) l9 c9 k9).binds (ps := P_are_pairs) fun _ _ _ _ _ _ us hl => match us, hl with | [_, _], _ => rfl,
    a_is_whole := f10,
    fd_is_whole := _,
    F_is_whole := fun_mk (st := s_is_whole) l10 c10 k10,
    g_is_whole := PySem.W.mg_of X G a10,
    b_is_whole := (fun_mk (st := s_is_whole) l10 c10 k10).binds (ps := P_is_whole) fun _ _ _ _ _ _ us hl => match us, hl with | [_], _ => rfl,
    a_is_integer := f11,
    fd_is_integer := _,
    F_is_integer := fun_mk (st := s_is_integer) l11 c11 k11,
    g_is_integer := PySem.W.mg_of X G a11,
    b_is_integer := (fun_mk (st := s_is_integer) l11 c11 k11).binds (ps := P_is_integer) fun _ _ _ _ _ _ us hl => match us, hl with | [_, _, _], _ => rfl,
    a_are_terms := f12,
    fd_are_terms := _,
    F_are_terms := fun_mk (st := s_are_terms) l12 c12 k12,
    g_are_terms := PySem.W.mg_of X G a12,
    b_are_terms := (fun_mk (st := s_are_terms) l12 c12 k12).binds (ps := P_are_terms) fun _ _ _ _ _ _ us hl => match us, hl with | [_, _], _ => rfl,
    a_is_rule := f13,
    fd_is_rule := _,
    F_is_rule := fun_mk (st := s_is_rule) l13 c13 k13,
    g_is_rule := PySem.W.mg_of X G a13,
    b_is_rule := (fun_mk (st := s_is_rule) l13 c13 k13).binds (ps := P_is_rule) fun _ _ _ _ _ _ us hl => match us, hl with | [_, _, _, _], _ => rfl,
    a_check_rules := f14,
    fd_check_rules := _,
    F_check_rules := fun_mk (st := s_check_rules) l14 c14 k14,
    g_check_rules := PySem.W.mg_of X G a14,
    b_check_rules := (fun_mk (st := s_check_rules) l14 c14 k14).binds (ps := P_check_rules) fun _ _ _ _ _ _ us hl => match us, hl with | [_, _, _, _], _ => rfl,
    a_Program___init__ := f15,
    fd_Program___init__ := _,
    F_Program___init__ := funV_mk (st := s_Program___init__) l15 c15 k15,
    C_dE := dE15,
    kt_dE := ⟨_, _, lE15, rfl, rfl⟩,
    bd_Program___init__ := bindsVD (st := s_Program___init__) (ps := P_Program___init__) lT15 fun us hl => match us, hl with | [_, _, _, _], _ => ⟨_, rfl, rfl⟩,
    b_Program___init__ := bindsV (st := s_Program___init__) (ps := P_Program___init__) lT15 fun us hl => match us, hl with | [_, _, _, _, _], _ => ⟨_, rfl, rfl⟩,
    a_Program_idle := f16,
    fd_Program_idle := _,
    F_Program_idle := fun_mk (st := s_Program_idle) l16 c16 k16,
    bs_Program_idle := StX.bind_star1 (B := fun l => bindArgs _ ⟨l, []⟩) (fun _ => rfl) (fun _ _ _ => rfl),
    a_same := f17,
    fd_same := _,
    F_same := fun_mk (st := s_same) l17 c17 k17,
    g_same := PySem.W.mg_of X G a17,
    b_same := (fun_mk (st := s_same) l17 c17 k17).binds (ps := P_same) fun _ _ _ _ _ _ us hl => match us, hl with | [_, _], _ => rfl,
    a_Program_modes := f18,
    fd_Program_modes := _,
    F_Program_modes := fun_mk (st := s_Program_modes) l18 c18 k18,
    b_Program_modes := (fun_mk (st := s_Program_modes) l18 c18 k18).binds (ps := P_Program_modes) fun _ _ _ _ _ _ us hl => match us, hl with | [_], _ => rfl,
    a_Program_registers := f19,
    fd_Program_registers := _,
    F_Program_registers := fun_mk (st := s_Program_registers) l19 c19 k19,
    b_Program_registers := (fun_mk (st := s_Program_registers) l19 c19 k19).binds (ps := P_Program_registers) fun _ _ _ _ _ _ us hl => match us, hl with | [_], _ => rfl,
    a_Program_signs := f20,
    fd_Program_signs := _,
    F_Program_signs := fun_mk (st := s_Program_signs) l20 c20 k20,
    b_Program_signs := (fun_mk (st := s_Program_signs) l20 c20 k20).binds (ps := P_Program_signs) fun _ _ _ _ _ _ us hl => match us, hl with | [_], _ => rfl,
    a_Program_rules := f21,
    fd_Program_rules := _,
    F_Program_rules := fun_mk (st := s_Program_rules) l21 c21 k21,
    b_Program_rules := (fun_mk (st := s_Program_rules) l21 c21 k21).binds (ps := P_Program_rules) fun _ _ _ _ _ _ us hl => match us, hl with | [_], _ => rfl,
    a_Program_width := f22,
    fd_Program_width := _,
    F_Program_width := fun_mk (st := s_Program_width) l22 c22 k22,
    b_Program_width := (fun_mk (st := s_Program_width) l22 c22 k22).binds (ps := P_Program_width) fun _ _ _ _ _ _ us hl => match us, hl with | [_], _ => rfl,
    a_Program_first_state := f23,
    fd_Program_first_state := _,
    F_Program_first_state := fun_mk (st := s_Program_first_state) l23 c23 k23,
    b_Program_first_state := (fun_mk (st := s_Program_first_state) l23 c23 k23).binds (ps := P_Program_first_state) fun _ _ _ _ _ _ us hl => match us, hl with | [_], _ => rfl,
    a_Program_is_state := f24,
    fd_Program_is_state := _,
    F_Program_is_state := fun_mk (st := s_Program_is_state) l24 c24 k24,
    b_Program_is_state := (fun_mk (st := s_Program_is_state) l24 c24 k24).binds (ps := P_Program_is_state) fun _ _ _ _ _ _ us hl => match us, hl with | [_, _], _ => rfl,
    a_check_state := f25,
    fd_check_state := _,
    F_check_state := fun_mk (st := s_check_state) l25 c25 k25,
    g_check_state := PySem.W.mg_of X G a25,
    b_check_state := (fun_mk (st := s_check_state) l25 c25 k25).binds (ps := P_check_state) fun _ _ _ _ _ _ us hl => match us, hl with | [_, _], _ => rfl,
    a_Program_is_event := f26,
    fd_Program_is_event := _,
    F_Program_is_event := fun_mk (st := s_Program_is_event) l26 c26 k26,
    b_Program_is_event := (fun_mk (st := s_Program_is_event) l26 c26 k26).binds (ps := P_Program_is_event) fun _ _ _ _ _ _ us hl => match us, hl with | [_, _], _ => rfl,
    a_check_events := f27,
    fd_check_events := _,
    F_check_events := fun_mk (st := s_check_events) l27 c27 k27,
    g_check_events := PySem.W.mg_of X G a27,
    b_check_events := (fun_mk (st := s_check_events) l27 c27 k27).binds (ps := P_check_events) fun _ _ _ _ _ _ us hl => match us, hl with | [_, _], _ => rfl,
    a_Program__moved := f28,
    fd_Program__moved := _,
    F_Program__moved := fun_mk (st := s_Program__moved) l28 c28 k28,
    b_Program__moved := (fun_mk (st := s_Program__moved) l28 c28 k28).binds (ps := P_Program__moved) fun _ _ _ _ _ _ us hl => match us, hl with | [_, _, _], _ => rfl,
    a_Program_run := f29,
    fd_Program_run := _,
    F_Program_run := fun_mk (st := s_Program_run) l29 c29 k29,
    b_Program_run := (fun_mk (st := s_Program_run) l29 c29 k29).binds (ps := P_Program_run) fun _ _ _ _ _ _ us hl => match us, hl with | [_, _, _], _ => rfl,
    a_bad_name := f30,
    fd_bad_name := _,
    F_bad_name := fun_mk (st := s_bad_name) l30 c30 k30,
    g_bad_name := PySem.W.mg_of X G a30,
    b_bad_name := (fun_mk (st := s_bad_name) l30 c30 k30).binds (ps := P_bad_name) fun _ _ _ _ _ _ us hl => match us, hl with | [_], _ => rfl,
    a_fields := f31,
    fd_fields := _,
    F_fields := fun_mk (st := s_fields) l31 c31 k31,
    g_fields := PySem.W.mg_of X G a31,
    b_fields := (fun_mk (st := s_fields) l31 c31 k31).binds (ps := P_fields) fun _ _ _ _ _ _ us hl => match us, hl with | [_], _ => rfl,
    a_got := f32,
    fd_got := _,
    F_got := fun_mk (st := s_got) l32 c32 k32,
    g_got := PySem.W.mg_of X G a32,
    b_got := (fun_mk (st := s_got) l32 c32 k32).binds (ps := P_got) fun _ _ _ _ _ _ us hl => match us, hl with | [_], _ => rfl,
    a_why := f33,
    fd_why := _,
    F_why := fun_mk (st := s_why) l33 c33 k33,
    g_why := PySem.W.mg_of X G a33,
    b_why := (fun_mk (st := s_why) l33 c33 k33).binds (ps := P_why) fun _ _ _ _ _ _ us hl => match us, hl with | [_], _ => rfl,
    a_whys := f34,
    fd_whys := _,
    F_whys := fun_mk (st := s_whys) l34 c34 k34,
    g_whys := PySem.W.mg_of X G a34,
    b_whys := (fun_mk (st := s_whys) l34 c34 k34).binds (ps := P_whys) fun _ _ _ _ _ _ us hl => match us, hl with | [_], _ => rfl,
    a_DuplicateName___init__ := f36,
    fd_DuplicateName___init__ := _,
    F_DuplicateName___init__ := fun_mk (st := s_DuplicateName___init__) l36 c36 k36,
    b_DuplicateName___init__ := (fun_mk (st := s_DuplicateName___init__) l36 c36 k36).binds (ps := P_DuplicateName___init__) fun _ _ _ _ _ _ us hl => match us, hl with | [_, _], _ => rfl,
    a_DuplicateRule___init__ := f37,
    fd_DuplicateRule___init__ := _,
    F_DuplicateRule___init__ := fun_mk (st := s_DuplicateRule___init__) l37 c37 k37,
    b_DuplicateRule___init__ := (fun_mk (st := s_DuplicateRule___init__) l37 c37 k37).binds (ps := P_DuplicateRule___init__) fun _ _ _ _ _ _ us hl => match us, hl with | [_, _], _ => rfl,
    a_InvalidCount___init__ := f38,
    fd_InvalidCount___init__ := _,
    F_InvalidCount___init__ := fun_mk (st := s_InvalidCount___init__) l38 c38 k38,
    b_InvalidCount___init__ := (fun_mk (st := s_InvalidCount___init__) l38 c38 k38).binds (ps := P_InvalidCount___init__) fun _ _ _ _ _ _ us hl => match us, hl with | [_, _], _ => rfl,
    a_InvalidEvent___init__ := f39,
    fd_InvalidEvent___init__ := _,
    F_InvalidEvent___init__ := fun_mk (st := s_InvalidEvent___init__) l39 c39 k39,
    b_InvalidEvent___init__ := (fun_mk (st := s_InvalidEvent___init__) l39 c39 k39).binds (ps := P_InvalidEvent___init__) fun _ _ _ _ _ _ us hl => match us, hl with | [_, _], _ => rfl,
    a_InvalidName___init__ := f40,
    fd_InvalidName___init__ := _,
    F_InvalidName___init__ := fun_mk (st := s_InvalidName___init__) l40 c40 k40,
    b_InvalidName___init__ := (fun_mk (st := s_InvalidName___init__) l40 c40 k40).binds (ps := P_InvalidName___init__) fun _ _ _ _ _ _ us hl => match us, hl with | [_, _], _ => rfl,
    a_InvalidRule___init__ := f41,
    fd_InvalidRule___init__ := _,
    F_InvalidRule___init__ := fun_mk (st := s_InvalidRule___init__) l41 c41 k41,
    b_InvalidRule___init__ := (fun_mk (st := s_InvalidRule___init__) l41 c41 k41).binds (ps := P_InvalidRule___init__) fun _ _ _ _ _ _ us hl => match us, hl with | [_, _], _ => rfl,
    a_InvalidState___init__ := f42,
    fd_InvalidState___init__ := _,
    F_InvalidState___init__ := fun_mk (st := s_InvalidState___init__) l42 c42 k42,
    b_InvalidState___init__ := (fun_mk (st := s_InvalidState___init__) l42 c42 k42).binds (ps := P_InvalidState___init__) fun _ _ _ _ _ _ us hl => match us, hl with | [_], _ => rfl,
    a_TooWide___init__ := f43,
    fd_TooWide___init__ := _,
    F_TooWide___init__ := fun_mk (st := s_TooWide___init__) l43 c43 k43,
    b_TooWide___init__ := (fun_mk (st := s_TooWide___init__) l43 c43 k43).binds (ps := P_TooWide___init__) fun _ _ _ _ _ _ us hl => match us, hl with | [_, _], _ => rfl }
  have hL := codeHd_mk gL gL11 gL18 gL7 gL9 gL10 gLne
  have hd := PySem.W.codeHd_of_K X hL
  have hP : h.get? PL = some { cls := .none, data := .fields #[] } := by
    have hL2 := hL
    unfold PySem.W.codeHdIn at hL2
    split at hL2
    · rename_i vs _ hk
      simp only [Bool.and_eq_true] at hL2
      obtain ⟨⟨⟨⟨⟨e1, _⟩, _⟩, _⟩, _⟩, _⟩ := hL2
      split at e1
      · rename_i P' h11
        exact own cL PL _ _ _ _ vs _ l35 rfl rfl hk (by rw [h11, beq_iff_eq.mp e1])
      · cases e1
    · cases hL2
  refine ⟨_, [(cL, PL)], spLaw K PL, fun p hp => by rw [List.mem_singleton.mp hp]; exact hP, fun p hp => by rw [List.mem_singleton.mp hp]; exact nL, fun p hp => by rw [List.mem_singleton.mp hp]; exact hd, fun s v => .of_eq rfl, fun H a ns hl _ hT hS => ⟨a, ns, rfl, hS, hl, hT _ (List.mem_singleton.mpr rfl), fun _ => rfl⟩, fun base _ _ hTB => ok_law Z l35 c35 (hTB _ (List.mem_singleton.mpr rfl))⟩
end Pf
open PySem PySem.W PyProof.Rows
set_option maxRecDepth 100000 in
set_option maxHeartbeats 0 in
theorem PySem.Challenge.cw_twinbegun_k10_idle_programs_holds : PySem.Challenge.rw_twinbegun_k10_idle_programs.Holds := by
  w_on; o_law; k_head; (case hw => w_witness2)
  k_fill
  refine LamX.walk_ofOwn (l := PySem.Challenge.rw_twinbegun_k10_idle_programs) (n := 63) (k := 13) (x := "_law_script") (CX := fun _ => L2.CX0) rfl (by decide) rfl ⟨rfl, by decide, by decide⟩ (by decide +kernel) (fun w h Y => PySem.W.km_in_of Y) ?F (fun _ _ _ _ _ h => h)
  case F =>
    intro w mg fa h Y KX G hmg own
    refine' Pf.all_mk KX G hmg ?aC0 ?aC1 ?aC2 ?aC3 ?aC4 ?aC5 ?aC6 ?aC7 ?aC8 ?aC9 ?aC10 ?aC11 ?a0 ?l0 ?c0 ?k0 ?a1 ?l1 ?c1 ?k1 ?a2 ?l2 ?c2 ?k2 ?a3 ?l3 ?c3 ?k3 ?a4 ?l4 ?c4 ?k4 ?a5 ?l5 ?c5 ?k5 ?a6 ?l6 ?c6 ?k6 ?a7 ?l7 ?c7 ?k7 ?a8 ?l8 ?c8 ?k8 ?a9 ?l9 ?c9 ?k9 ?a10 ?l10 ?c10 ?k10 ?a11 ?l11 ?c11 ?k11 ?a12 ?l12 ?c12 ?k12 ?a13 ?l13 ?c13 ?k13 ?a14 ?l14 ?c14 ?k14 ?a15 ?i15 ?l15 ?lT15 ?lE15 ?c15 ?k15 ?a16 ?pr16 ?fi16 ?l16 ?c16 ?k16 ?a17 ?l17 ?c17 ?k17 ?a18 ?i18 ?l18 ?c18 ?k18 ?a19 ?i19 ?l19 ?c19 ?k19 ?a20 ?i20 ?l20 ?c20 ?k20 ?a21 ?i21 ?l21 ?c21 ?k21 ?a22 ?pg22 ?pt22 ?pr22 ?l22 ?c22 ?k22 ?a23 ?i23 ?l23 ?c23 ?k23 ?a24 ?i24 ?l24 ?c24 ?k24 ?a25 ?l25 ?c25 ?k25 ?a26 ?i26 ?l26 ?c26 ?k26 ?a27 ?l27 ?c27 ?k27 ?a28 ?i28 ?l28 ?c28 ?k28 ?a29 ?i29 ?l29 ?c29 ?k29 ?a30 ?l30 ?c30 ?k30 ?a31 ?l31 ?c31 ?k31 ?a32 ?l32 ?c32 ?k32 ?a33 ?l33 ?c33 ?k33 ?a34 ?l34 ?c34 ?k34 ?a35 ?l35 ?c35 ?k35 ?gL ?gL11 ?gL18 ?gL7 ?gL9 ?gL10 ?gLne ?nL ?a36 ?i36 ?l36 ?c36 ?k36 ?a37 ?i37 ?l37 ?c37 ?k37 ?a38 ?i38 ?l38 ?c38 ?k38 ?a39 ?i39 ?l39 ?c39 ?k39 ?a40 ?i40 ?l40 ?c40 ?k40 ?a41 ?i41 ?l41 ?c41 ?k41 ?a42 ?i42 ?l42 ?c42 ?k42 ?a43 ?i43 ?l43 ?c43 ?k43 ?xl4 ?xr4 ?xsa4 ?xsu4 ?xty4 ?xk4 ?xga4 ?xgg4 ?xhd4 ?xti4 ?xf4_code ?xf4_name ?xm4_ ?xl5 ?xr5 ?xsa5 ?xsu5 ?xty5 ?xk5 ?xga5 ?xgg5 ?xhd5 ?xti5 ?xf5_code ?xf5_index ?xm5_ ?xl6 ?xr6 ?xsa6 ?xsu6 ?xty6 ?xk6 ?xga6 ?xgg6 ?xhd6 ?xti6 ?xf6_code ?xf6_given ?xm6_ ?xl7 ?xr7 ?xsa7 ?xsu7 ?xty7 ?xk7 ?xga7 ?xgg7 ?xhd7 ?xti7 ?xf7_code ?xf7_index ?xm7_ ?xl8 ?xr8 ?xsa8 ?xsu8 ?xty8 ?xk8 ?xga8 ?xgg8 ?xhd8 ?xti8 ?xf8_code ?xf8_given ?xm8_ ?xl9 ?xr9 ?xsa9 ?xsu9 ?xty9 ?xk9 ?xga9 ?xgg9 ?xhd9 ?xti9 ?xf9_code ?xf9_index ?xm9_ ?xl10 ?xr10 ?xsa10 ?xsu10 ?xty10 ?xk10 ?xga10 ?xgg10 ?xhd10 ?xti10 ?xf10_code ?xm10_ ?xl11 ?xr11 ?xsa11 ?xsu11 ?xty11 ?xk11 ?xga11 ?xgg11 ?xhd11 ?xti11 ?xf11_code ?xf11_most ?xm11_ ?z0 ?z1 ?z2 ?z3 ?z4 ?z5 ?z6 ?z7 ?z8 ?z9 ?z10 ?z11 ?x0 ?x1 ?x2 ?x3 ?x4 ?x5 ?x6 ?x7 ?x8 ?Pg0 ?Hd0 ?Po0 ?Sa0 ?Rd0 ?Ga0 ?na0 ?na1 ?na2 ?na3 ?na4 ?cv0 ?mk15 ?kc15 own
    (case aC0 => k_is); (case aC1 => k_is); (case aC2 => k_is); (case aC3 => k_is); (case aC4 => k_is); (case aC5 => k_is); (case aC6 => k_is); (case aC7 => k_is); (case aC8 => k_is); (case aC9 => k_is); (case aC10 => k_is); (case aC11 => k_is); (case a0 => k_is); (case l0 => k_is); (case c0 => k_is); (case k0 => k_is); (case a1 => k_is); (case l1 => k_is); (case c1 => k_is); (case k1 => k_is); (case a2 => k_is); (case l2 => k_is); (case c2 => k_is); (case k2 => k_is); (case a3 => k_is); (case l3 => k_is); (case c3 => k_is); (case k3 => k_is); (case a4 => k_is); (case l4 => k_is); (case c4 => k_is); (case k4 => k_is); (case a5 => k_is); (case l5 => k_is); (case c5 => k_is); (case k5 => k_is); (case a6 => k_is); (case l6 => k_is); (case c6 => k_is); (case k6 => k_is); (case a7 => k_is); (case l7 => k_is); (case c7 => k_is); (case k7 => k_is); (case a8 => k_is); (case l8 => k_is); (case c8 => k_is); (case k8 => k_is); (case a9 => k_is); (case l9 => k_is); (case c9 => k_is); (case k9 => k_is); (case a10 => k_is); (case l10 => k_is); (case c10 => k_is); (case k10 => k_is); (case a11 => k_is); (case l11 => k_is); (case c11 => k_is); (case k11 => k_is); (case a12 => k_is); (case l12 => k_is); (case c12 => k_is); (case k12 => k_is); (case a13 => k_is); (case l13 => k_is); (case c13 => k_is); (case k13 => k_is); (case a14 => k_is); (case l14 => k_is); (case c14 => k_is); (case k14 => k_is); (case a15 => k_is); (case i15 => k_is); (case l15 => k_is); (case lT15 => k_is); (case lE15 => k_is); (case c15 => k_is); (case k15 => k_is); (case a16 => k_is); (case pr16 => k_is); (case fi16 => k_is); (case l16 => k_is); (case c16 => k_is); (case k16 => k_is); (case a17 => k_is); (case l17 => k_is); (case c17 => k_is); (case k17 => k_is); (case a18 => k_is); (case i18 => k_is); (case l18 => k_is); (case c18 => k_is); (case k18 => k_is); (case a19 => k_is); (case i19 => k_is); (case l19 => k_is); (case c19 => k_is); (case k19 => k_is); (case a20 => k_is); (case i20 => k_is); (case l20 => k_is); (case c20 => k_is); (case k20 => k_is); (case a21 => k_is); (case i21 => k_is); (case l21 => k_is); (case c21 => k_is); (case k21 => k_is); (case a22 => k_is); (case pg22 => k_is); (case pt22 => k_is); (case pr22 => k_is); (case l22 => k_is); (case c22 => k_is); (case k22 => k_is); (case a23 => k_is); (case i23 => k_is); (case l23 => k_is); (case c23 => k_is); (case k23 => k_is); (case a24 => k_is); (case i24 => k_is); (case l24 => k_is); (case c24 => k_is); (case k24 => k_is); (case a25 => k_is); (case l25 => k_is); (case c25 => k_is); (case k25 => k_is); (case a26 => k_is); (case i26 => k_is); (case l26 => k_is); (case c26 => k_is); (case k26 => k_is); (case a27 => k_is); (case l27 => k_is); (case c27 => k_is); (case k27 => k_is); (case a28 => k_is); (case i28 => k_is); (case l28 => k_is); (case c28 => k_is); (case k28 => k_is); (case a29 => k_is); (case i29 => k_is); (case l29 => k_is); (case c29 => k_is); (case k29 => k_is); (case a30 => k_is); (case l30 => k_is); (case c30 => k_is); (case k30 => k_is); (case a31 => k_is); (case l31 => k_is); (case c31 => k_is); (case k31 => k_is); (case a32 => k_is); (case l32 => k_is); (case c32 => k_is); (case k32 => k_is); (case a33 => k_is); (case l33 => k_is); (case c33 => k_is); (case k33 => k_is); (case a34 => k_is); (case l34 => k_is); (case c34 => k_is); (case k34 => k_is); (case a35 => k_is); (case l35 => k_is); (case c35 => k_is); (case k35 => k_is); (case gL => k_is); (case gL11 => exact rfl); (case gL18 => exact ⟨_, _, rfl⟩); (case gL7 => exact ⟨_, _, rfl⟩); (case gL9 => exact ⟨_, rfl⟩); (case gL10 => exact ⟨_, _, rfl⟩); (case gLne => decide); (case nL => exact rfl); (case a36 => k_is); (case i36 => k_is); (case l36 => k_is); (case c36 => k_is); (case k36 => k_is); (case a37 => k_is); (case i37 => k_is); (case l37 => k_is); (case c37 => k_is); (case k37 => k_is); (case a38 => k_is); (case i38 => k_is); (case l38 => k_is); (case c38 => k_is); (case k38 => k_is); (case a39 => k_is); (case i39 => k_is); (case l39 => k_is); (case c39 => k_is); (case k39 => k_is); (case a40 => k_is); (case i40 => k_is); (case l40 => k_is); (case c40 => k_is); (case k40 => k_is); (case a41 => k_is); (case i41 => k_is); (case l41 => k_is); (case c41 => k_is); (case k41 => k_is); (case a42 => k_is); (case i42 => k_is); (case l42 => k_is); (case c42 => k_is); (case k42 => k_is); (case a43 => k_is); (case i43 => k_is); (case l43 => k_is); (case c43 => k_is); (case k43 => k_is); (case xl4 => k_is); (case xr4 => exact rfl); (case xsa4 => k_is); (case xsu4 => k_is); (case xty4 => k_is); (case xk4 => k_is); (case xga4 => k_is); (case xgg4 => k_is); (case xhd4 => k_is); (case xti4 => k_is); (case xf4_code => k_is); (case xf4_name => k_is); (case xm4_ => kts_exm); (case xl5 => k_is); (case xr5 => exact rfl); (case xsa5 => k_is); (case xsu5 => k_is); (case xty5 => k_is); (case xk5 => k_is); (case xga5 => k_is); (case xgg5 => k_is); (case xhd5 => k_is); (case xti5 => k_is); (case xf5_code => k_is); (case xf5_index => k_is); (case xm5_ => kts_exm); (case xl6 => k_is); (case xr6 => exact rfl); (case xsa6 => k_is); (case xsu6 => k_is); (case xty6 => k_is); (case xk6 => k_is); (case xga6 => k_is); (case xgg6 => k_is); (case xhd6 => k_is); (case xti6 => k_is); (case xf6_code => k_is); (case xf6_given => k_is); (case xm6_ => kts_exm); (case xl7 => k_is); (case xr7 => exact rfl); (case xsa7 => k_is); (case xsu7 => k_is); (case xty7 => k_is); (case xk7 => k_is); (case xga7 => k_is); (case xgg7 => k_is); (case xhd7 => k_is); (case xti7 => k_is); (case xf7_code => k_is); (case xf7_index => k_is); (case xm7_ => kts_exm); (case xl8 => k_is); (case xr8 => exact rfl); (case xsa8 => k_is); (case xsu8 => k_is); (case xty8 => k_is); (case xk8 => k_is); (case xga8 => k_is); (case xgg8 => k_is); (case xhd8 => k_is); (case xti8 => k_is); (case xf8_code => k_is); (case xf8_given => k_is); (case xm8_ => kts_exm); (case xl9 => k_is); (case xr9 => exact rfl); (case xsa9 => k_is); (case xsu9 => k_is); (case xty9 => k_is); (case xk9 => k_is); (case xga9 => k_is); (case xgg9 => k_is); (case xhd9 => k_is); (case xti9 => k_is); (case xf9_code => k_is); (case xf9_index => k_is); (case xm9_ => kts_exm); (case xl10 => k_is); (case xr10 => exact rfl); (case xsa10 => k_is); (case xsu10 => k_is); (case xty10 => k_is); (case xk10 => k_is); (case xga10 => k_is); (case xgg10 => k_is); (case xhd10 => k_is); (case xti10 => k_is); (case xf10_code => k_is); (case xm10_ => kts_exm); (case xl11 => k_is); (case xr11 => exact rfl); (case xsa11 => k_is); (case xsu11 => k_is); (case xty11 => k_is); (case xk11 => k_is); (case xga11 => k_is); (case xgg11 => k_is); (case xhd11 => k_is); (case xti11 => k_is); (case xf11_code => k_is); (case xf11_most => k_is); (case xm11_ => kts_exm); (case z0 => k_is); (case z1 => k_is); (case z2 => k_is); (case z3 => k_is); (case z4 => k_is); (case z5 => k_is); (case z6 => k_is); (case z7 => k_is); (case z8 => k_is); (case z9 => k_is); (case z10 => k_is); (case z11 => k_is); (case x0 => k_is); (case x1 => k_is); (case x2 => k_is); (case x3 => k_is); (case x4 => k_is); (case x5 => k_is); (case x6 => k_is); (case x7 => k_is); (case x8 => k_is); (case Pg0 => k_is); (case Hd0 => k_is); (case Po0 => k_is); (case Sa0 => k_is); (case Rd0 => k_is); (case Ga0 => k_is); (case na0 => k_is); (case na1 => k_is); (case na2 => k_is); (case na3 => k_is); (case na4 => k_is); (case cv0 => k_is); (case mk15 => k_is); (case kc15 => k_is)
