import PyProof.Rows.All
import Wide.All
import OpenK.AllK
import Wide.FinOn
import PyProof.EqAt
import PyProof.EqKinds
import PyProof.TupleCall
import KE.KStateDown
import HandS.ForMost
import HandS.Flow
import HandS.Exc
import HandS.TryOnly
import HandS.TryMany
import HandS.ExcOwn
import HandS.WordsExc
import HandS.ExcField
import HandS.IsInst
import HandS.Deep
import HandS.Conv
import HandS.Style
import HandS.TupAny
import HandS.TupMul
import HandS.Star
import HandS.FStr
import HandS.Strs
import HandS.Defaults
import HandS.More
import HandS.Codes
import HandS.MakeKw
import HandS.MakeKwOnly
import HandS.Head0
import HandS.Head1
import HandS.Head2
import HandS.HeadEnd
import HandS.HeadHook1
import HandS.HeadHook2
import KE.KExcInit
import KE.KExcIs
import KE.KExcHand
import HandS.ExcValue
import PySem.Challenge.RW_cutweave_k00_errors
set_option Elab.async false
set_option linter.all false
set_option maxRecDepth 100000
set_option maxHeartbeats 4000000
namespace Cw
open PySem PySem.Spec PyProof.Rows L2
/-! ### the world: what is known for good (G) within what is there (H) -/
def Ex (H H' : Hp) : Prop := ∀ a o, H a = some o → H' a = some o
theorem Ex.refl (H : Hp) : Ex H H := fun _ _ h => h
theorem Ex.trans {H H1 H2 : Hp} (a : Ex H H1) (b : Ex H1 H2) : Ex H H2 := fun x o h => b x o (a x o h)
theorem Ex.new {H : Hp} {p : Addr} {o : HO} (h : H p = none) : Ex H (upd H p o) := fun a u e => by
  rw [upd_ne (ne_of_none e h)]
  exact e
/-- an object that H does not know may change -/
theorem Ex.mut {H H' : Hp} {p : Addr} {o : HO} (e : Ex H H') (h : H p = none) : Ex H (upd H' p o) := fun a u ha => by
  rw [upd_ne (ne_of_none ha h)]
  exact e a u ha
theorem Ex.add {G H : Hp} {p : Addr} {o : HO} (e : Ex G H) (h : H p = some o) : Ex (upd G p o) H := fun a u ha => by
  by_cases z : a = p
  · subst z
    rw [upd_same] at ha
    cases ha
    exact h
  · rw [upd_ne z] at ha
    exact e a u ha
theorem Ex.back {H H' : Hp} {p : Addr} (e : Ex H H') (h : H' p = none) : H p = none := by
  cases h1 : H p with
  | none => rfl
  | some o =>
    rw [e p o h1] at h
    cases h
theorem Ex.rd {H H' : Hp} {a : Addr} {u : HO} (e : Ex H H') (h : Rd H a u) : Rd H' a u := by
  rcases h with h | ⟨o, h⟩
  · exact Or.inl (e a _ h)
  · exact Or.inr ⟨o, e a _ h⟩
theorem Ex.sl {K : PySem.W.Frag} {H H' : Hp} {a : Addr} {xs : List V} (e : Ex H H') (h : SqL K H a xs) : SqL K H' a xs := by
  rcases h with h | h
  · exact Or.inl (e.rd h)
  · exact Or.inr h
theorem Ex.st {K : PySem.W.Frag} {H H' : Hp} {a : Addr} {xs : List V} (e : Ex H H') (h : SqT K H a xs) : SqT K H' a xs := by
  rcases h with h | h
  · exact Or.inl (e.rd h)
  · exact Or.inr h
/-- from (G, H) to (G', H'): G and H have grown, at b (if at all) H has changed; G' knows of what was there no more than G did -/
structure Gro (b : Option Addr) (G H G' H' : Hp) : Prop where
  g : Ex G G'
  w : Ex G' H'
  k : ∀ a o, some a ≠ b → H a = some o → H' a = some o
  n : ∀ a, H a ≠ none → G a = none → G' a = none
theorem Gro.ex {G H G' H' : Hp} (g : Gro none G H G' H') : Ex H H' := fun a o h => g.k a o (fun z => nomatch z) h
theorem Gro.refl {b : Option Addr} {G H : Hp} (e : Ex G H) : Gro b G H G H := ⟨Ex.refl G, e, fun _ _ _ h => h, fun _ _ h => h⟩
theorem Gro.mono {b : Option Addr} {G H G' H' : Hp} (g : Gro none G H G' H') : Gro b G H G' H' := ⟨g.g, g.w, fun a o _ h => g.ex a o h, g.n⟩
theorem Gro.trans {b : Option Addr} {G H G1 H1 G2 H2 : Hp} (x : Gro b G H G1 H1) (y : Gro b G1 H1 G2 H2) (hb : ∀ a, b = some a → H a ≠ none → H1 a ≠ none) : Gro b G H G2 H2 :=
  ⟨x.g.trans y.g, y.w, fun a o z h => y.k a o z (x.k a o z h), fun a h z => y.n a (by
    by_cases e : some a = b
    · exact hb a e.symm h
    · cases q : H a with
      | none => exact absurd q h
      | some o =>
        rw [x.k a o e q]
        exact fun z => nomatch z) (x.n a h z)⟩
theorem Gro.trans0 {G H G1 H1 G2 H2 : Hp} (x : Gro none G H G1 H1) (y : Gro none G1 H1 G2 H2) : Gro none G H G2 H2 := x.trans y fun a z => nomatch z
/-- only H has grown -/
theorem Gro.up {G H H' : Hp} (e : Ex G H) (k : Ex H H') : Gro none G H G H' := ⟨Ex.refl G, e.trans k, fun a o _ h => k a o h, fun _ _ h => h⟩
/-- a new object, known from now on -/
theorem Gro.new {G H : Hp} {p : Addr} {o : HO} (e : Ex G H) (h : H p = none) : Gro none G H (upd G p o) (upd H p o) :=
  ⟨Ex.new (e.back h), fun a u ha => by
    by_cases z : a = p
    · subst z
      rw [upd_same] at ha ⊢
      exact ha
    · rw [upd_ne z] at ha ⊢
      exact e a u ha, fun a u _ ha => Ex.new h a u ha, fun a ha z => by
    have q : a ≠ p := fun y => by
      rw [y] at ha
      exact ha h
    rw [upd_ne q]
    exact z⟩
/-! ### data: what a value is worth -/
mutual
inductive Rp (K : PySem.W.Frag) (G : Hp) : V → PyData → Prop
  | non : Rp K G .non .none
  | bl (b : Bool) : Rp K G (.bl b) (.bool b)
  | int (i : Int) : Rp K G (.int i) (.int i)
  | str (x : Str) : Rp K G (.str x) (.str x)
  | lst {a : Addr} {xs : List V} {ds : List PyData} : G a = some (.lst xs) → Rps K G xs ds → Rp K G (.ref a) (.list ds)
  | tup {a : Addr} {xs : List V} {ds : List PyData} : SqT K G a xs → Rps K G xs ds → Rp K G (.ref a) (.tuple ds)
inductive Rps (K : PySem.W.Frag) (G : Hp) : List V → List PyData → Prop
  | nil : Rps K G [] []
  | cons {v : V} {vs : List V} {d : PyData} {ds : List PyData} : Rp K G v d → Rps K G vs ds → Rps K G (v :: vs) (d :: ds)
end
mutual
theorem Rp.mono {K : PySem.W.Frag} {G G' : Hp} (e : Ex G G') : ∀ {v : V} {d : PyData}, Rp K G v d → Rp K G' v d
  | _, _, .non => .non
  | _, _, .bl b => .bl b
  | _, _, .int i => .int i
  | _, _, .str x => .str x
  | _, _, .lst h r => .lst (e _ _ h) (Rps.mono e r)
  | _, _, .tup h r => .tup (e.st h) (Rps.mono e r)
theorem Rps.mono {K : PySem.W.Frag} {G G' : Hp} (e : Ex G G') : ∀ {vs : List V} {ds : List PyData}, Rps K G vs ds → Rps K G' vs ds
  | _, _, .nil => .nil
  | _, _, .cons h r => .cons (Rp.mono e h) (Rps.mono e r)
end
mutual
theorem Rp.dp {K : PySem.W.Frag} {G : Hp} : ∀ {v : V} {d : PyData}, Rp K G v d → Dp K G v d
  | _, _, .non => .non
  | _, _, .bl b => .bl b
  | _, _, .int i => .int i
  | _, _, .str x => .str x
  | _, _, .lst h r => .lst (.inl (.inl h)) (Rps.dp r)
  | _, _, .tup h r => .tup h (Rps.dp r)
theorem Rps.dp {K : PySem.W.Frag} {G : Hp} : ∀ {vs : List V} {ds : List PyData}, Rps K G vs ds → DpAll K G vs ds
  | _, _, .nil => .nil
  | _, _, .cons h r => .cons (Rp.dp h) (Rps.dp r)
end
section
variable {K : PySem.W.Frag} {G : Hp}
theorem Rps.len : ∀ {vs : List V} {ds : List PyData}, Rps K G vs ds → vs.length = ds.length
  | _, _, .nil => rfl
  | _, _, .cons _ r => by rw [List.length_cons, List.length_cons, Rps.len r]
theorem Rps.get : ∀ {vs : List V} {ds : List PyData} {i : Nat} {d : PyData}, Rps K G vs ds → ds[i]? = some d → ∃ v, vs[i]? = some v ∧ Rp K G v d
  | _, _, _, _, .nil, e => by simp at e
  | _, _, 0, _, .cons h _, e => by
    simp at e
    subst e
    exact ⟨_, rfl, h⟩
  | _, _, i + 1, d, .cons _ r, e => by
    obtain ⟨v, h1, h2⟩ := Rps.get (i := i) (d := d) r (by simpa using e)
    exact ⟨v, by simpa using h1, h2⟩
theorem Rps.at {vs : List V} {ds : List PyData} {i : Nat} {v : V} (h : Rps K G vs ds) (e : vs[i]? = some v) : ∃ d, ds[i]? = some d ∧ Rp K G v d := by
  have hi : i < ds.length := by
    rw [← h.len]
    exact (List.getElem?_eq_some_iff.mp e).1
  obtain ⟨u, h1, h2⟩ := h.get (List.getElem?_eq_getElem hi)
  rw [e] at h1
  cases h1
  exact ⟨_, List.getElem?_eq_getElem hi, h2⟩
theorem Rps.app : ∀ {vs us : List V} {ds es : List PyData}, Rps K G vs ds → Rps K G us es → Rps K G (vs ++ us) (ds ++ es)
  | _, _, _, _, .nil, h => h
  | _, _, _, _, .cons h r, q => .cons h (Rps.app r q)
theorem Rps.drop : ∀ {vs : List V} {ds : List PyData} (n : Nat), Rps K G vs ds → Rps K G (vs.drop n) (ds.drop n)
  | _, _, 0, r => r
  | _, _, _ + 1, .nil => .nil
  | _, _, n + 1, .cons _ r => Rps.drop n r
theorem Rps.take : ∀ {vs : List V} {ds : List PyData} (n : Nat), Rps K G vs ds → Rps K G (vs.take n) (ds.take n)
  | _, _, 0, _ => .nil
  | _, _, _ + 1, .nil => .nil
  | _, _, n + 1, .cons h r => .cons h (Rps.take n r)
theorem Rps.rep {v : V} {d : PyData} (h : Rp K G v d) : ∀ n : Nat, Rps K G (List.replicate n v) (List.replicate n d)
  | 0 => .nil
  | n + 1 => .cons h (Rps.rep h n)
theorem Rps.one {v : V} {d : PyData} (h : Rp K G v d) : Rps K G [v] [d] := .cons h .nil
theorem Rps.set {v : V} {d : PyData} (h : Rp K G v d) : ∀ {vs : List V} {ds : List PyData} (i : Nat), Rps K G vs ds → Rps K G (vs.set i v) (ds.set i d)
  | _, _, _, .nil => .nil
  | _, _, 0, .cons _ r => .cons h r
  | _, _, i + 1, .cons q r => .cons q (Rps.set h i r)
theorem rp_int {v : V} {i : Int} (h : Rp K G v (.int i)) : v = .int i := by cases h <;> rfl
theorem rp_bool {v : V} {i : Bool} (h : Rp K G v (.bool i)) : v = .bl i := by cases h <;> rfl
theorem rp_str {v : V} {i : Str} (h : Rp K G v (.str i)) : v = .str i := by cases h <;> rfl
theorem rp_none {v : V} (h : Rp K G v .none) : v = .non := by cases h <;> rfl
theorem rp_tup {v : V} {ds : List PyData} (h : Rp K G v (.tuple ds)) : ∃ a vs, v = .ref a ∧ SqT K G a vs ∧ Rps K G vs ds := by
  cases h with
  | tup h r => exact ⟨_, _, rfl, h, r⟩
theorem rp_lst {v : V} {ds : List PyData} (h : Rp K G v (.list ds)) : ∃ a vs, v = .ref a ∧ G a = some (.lst vs) ∧ Rps K G vs ds := by
  cases h with
  | lst h r => exact ⟨_, _, rfl, h, r⟩
theorem rp_nodict {v : V} {ds : List (PyData × PyData)} (h : Rp K G v (.dict ds)) : False := by cases h
theorem rps_ints {vs : List V} {ns : List Int} (h : Rps K G vs (ns.map .int)) : vs = ns.map .int := by
  induction ns generalizing vs with
  | nil => cases h <;> rfl
  | cons n r ih =>
    cases h with
    | cons h1 h2 => rw [rp_int h1, ih h2] <;> rfl
theorem ints_rps : ∀ ns : List Int, Rps K G (ns.map V.int) (ns.map .int)
  | [] => .nil
  | n :: r => .cons (.int n) (ints_rps r)
end
end Cw

set_option maxHeartbeats 4000000
namespace Cw
open PySem PySem.Spec PyProof.Rows L2
/-! ### what the module's names are: the built-in ones are free -/
structure Blt (mg : Str → Option Value) : Prop where
  len_ : mg "len" = none
  range_ : mg "range" = none
  int_ : mg "int" = none
  str_ : mg "str" = none
  bool_ : mg "bool" = none
  list_ : mg "list" = none
  tuple_ : mg "tuple" = none
  set_ : mg "set" = none
  dict_ : mg "dict" = none
  isinstance_ : mg "isinstance" = none
  all_ : mg "all" = none
  any_ : mg "any" = none
  enumerate_ : mg "enumerate" = none
  zip_ : mg "zip" = none
  min_ : mg "min" = none
  max_ : mg "max" = none
  sum_ : mg "sum" = none
  sorted_ : mg "sorted" = none
  reversed_ : mg "reversed" = none
  Exception_ : mg "Exception" = none
  ValueError_ : mg "ValueError" = none
theorem bo_len : bootBuiltins "len" = some (.builtin "len") := PySem.boot_len
theorem bo_isinstance : bootBuiltins "isinstance" = some (.builtin "isinstance") := by decide +kernel
theorem bo_all : bootBuiltins "all" = some (.builtin "all") := by decide +kernel
theorem bo_any : bootBuiltins "any" = some (.builtin "any") := by decide +kernel
theorem bo_int : bootBuiltins "int" = some (.type "int") := by decide +kernel
theorem bo_str : bootBuiltins "str" = some (.type "str") := by decide +kernel
theorem bo_bool : bootBuiltins "bool" = some (.type "bool") := by decide +kernel
theorem bo_list : bootBuiltins "list" = some (.type "list") := by decide +kernel
theorem bo_tuple : bootBuiltins "tuple" = some (.type "tuple") := by decide +kernel
theorem bo_set : bootBuiltins "set" = some (.type "set") := by decide +kernel
theorem bo_Exception : bootBuiltins "Exception" = some (.type "Exception") := by decide +kernel
theorem bo_ValueError : bootBuiltins "ValueError" = some (.type "ValueError") := by decide +kernel

/-! ### a def of the text -/
abbrev FnP (K : PySem.W.Frag) (x : Str) (st : Stmt) (f : Addr) (fd : FuncData) : Prop := FunD K x x (defArgs st) (defBody st) (defScope st) [] [] f fd
/-- a def that a name of the module stands for, and what it promises (no exception) -/
def Cal (P : Program) (w : World) (K : PySem.W.Frag) (mg : Str → Option Value) (base : Heap) (k : Nat) (x : Str) (ps : List Str) (sp : Sp) : Prop :=
  ∃ f fd, FnOk P w K mg base CX0 k f fd ps sp ∧ mg x = some (.ref f) ∧ PySem.W.keepIn K (.ref f) = true ∧ Binds K fd ps []
/-- the same of one that may raise -/
def CalX (P : Program) (w : World) (K : PySem.W.Frag) (mg : Str → Option Value) (base : Heap) (k : Nat) (x : Str) (ps : List Str) (sp : Sp) : Prop :=
  ∃ f fd, FnOk P w K mg base (L2.CX P w) k f fd ps sp ∧ mg x = some (.ref f) ∧ PySem.W.keepIn K (.ref f) = true ∧ Binds K fd ps []
section
variable {P : Program} {w : World} {K : PySem.W.Frag} {mg : Str → Option Value} {base : Heap}
theorem Cal.imp {k : Nat} {x : Str} {ps : List Str} {sp sp' : Sp} (c : Cal P w K mg base k x ps sp) (h : ∀ vs H Q E, sp' vs H Q E → sp vs H Q E) : Cal P w K mg base k x ps sp' := by
  obtain ⟨f, fd, h1, h2⟩ := c
  exact ⟨f, fd, h1.imp h, h2⟩
theorem Cal.mono {j k : Nat} {x : Str} {ps : List Str} {sp : Sp} (c : Cal P w K mg base j x ps sp) (h : j ≤ k) : Cal P w K mg base k x ps sp := by
  obtain ⟨f, fd, h1, h2⟩ := c
  exact ⟨f, fd, h1.mono h, h2⟩
/-- a def of the text that raises nothing keeps its promise -/
theorem cal_of {x : Str} {st : Stmt} {f : Addr} {fd : FuncData} {N ps : List Str} {k : Nat} {sp : Sp} (F : FnP K x st f fd) (hm : mg x = some (.ref f)) (S : FnScope N ps (defScope st))
    (hb : ∀ (dV kV doc pm : Value) (an : Option Addr) (cdv ct : Value) (us : List Value), us.length = ps.length → bindArgs (PySem.W.fnOf x x (defArgs st) (defBody st) (defScope st) .none kV doc pm an cdv ct) ⟨us, []⟩ = pure (ps.zip us))
    (len : ∀ vs H Q E, sp vs H Q E → vs.length = ps.length)
    (body : ∀ (cdv : Value) (A : Around) (outer : List Env) (s : Shared) (H : Hp) (vs : List V) (Q : VK) (E : XK), Room k (A.deeper (envOfC x (defScope st) s.heap.objs.size f cdv)) → sp vs H Q E →
      ∃ t σ, PSs (cxOf CX0 P w K mg base N x (defScope st) f cdv A outer s H E).nox (defBody st) t ∧ start N vs = σ ∧ t { nx := fun _ H' => Q .non H', rt := Q } σ H) :
    Cal P w K mg base (k + 1) x ps sp := by
  refine ⟨f, fd, FunD.ok F S len (fun cdv A outer s H vs Q E hr h => ?_), hm, F.kp, ?_⟩
  · obtain ⟨t, σ, h1, rfl, h2⟩ := body cdv A outer s H vs Q E hr h
    exact ⟨t, PSs.nox h1, h2⟩
  · obtain ⟨oc, od, dV, kV, doc, pm, an, cdv, ct, osl, rfl, lk, hcd, hd, hk⟩ := F.ex
    rcases hd with ⟨_, rfl⟩ | ⟨z, _⟩
    · exact .all fun us hu => hb .none kV doc pm an cdv ct us hu
    · exact absurd rfl z
/-- a def stands there, of which nothing is asked -/
theorem cal_never {x : Str} {st : Stmt} {f : Addr} {fd : FuncData} {ps : List Str} {k : Nat} {sp : Sp} (F : FnP K x st f fd) (hm : mg x = some (.ref f))
    (hb : ∀ (dV kV doc pm : Value) (an : Option Addr) (cdv ct : Value) (us : List Value), us.length = ps.length → bindArgs (PySem.W.fnOf x x (defArgs st) (defBody st) (defScope st) .none kV doc pm an cdv ct) ⟨us, []⟩ = pure (ps.zip us))
    (no : ∀ vs H Q E, ¬ sp vs H Q E) : Cal P w K mg base k x ps sp := by
  refine ⟨f, fd, ⟨fun vs H Q E h => absurd h (no vs H Q E), fun A outer s H args us vs Q E _ _ _ _ h => absurd h (no vs H Q E)⟩, hm, F.kp, ?_⟩
  obtain ⟨oc, od, dV, kV, doc, pm, an, cdv, ct, osl, rfl, lk, hcd, hd, hk⟩ := F.ex
  rcases hd with ⟨_, rfl⟩ | ⟨z, _⟩
  · exact .all fun us hu => hb .none kV doc pm an cdv ct us hu
  · exact absurd rfl z
theorem calX_of {x : Str} {st : Stmt} {f : Addr} {fd : FuncData} {N ps : List Str} {k : Nat} {sp : Sp} (F : FnP K x st f fd) (hm : mg x = some (.ref f)) (S : FnScope N ps (defScope st))
    (hb : ∀ (dV kV doc pm : Value) (an : Option Addr) (cdv ct : Value) (us : List Value), us.length = ps.length → bindArgs (PySem.W.fnOf x x (defArgs st) (defBody st) (defScope st) .none kV doc pm an cdv ct) ⟨us, []⟩ = pure (ps.zip us))
    (len : ∀ vs H Q E, sp vs H Q E → vs.length = ps.length)
    (body : ∀ (cdv : Value) (A : Around) (outer : List Env) (s : Shared) (H : Hp) (vs : List V) (Q : VK) (E : XK), Room k (A.deeper (envOfC x (defScope st) s.heap.objs.size f cdv)) → sp vs H Q E →
      ∃ t σ, PSs (cxOf (L2.CX P w) P w K mg base N x (defScope st) f cdv A outer s H E) (defBody st) t ∧ start N vs = σ ∧ t { nx := fun _ H' => Q .non H', rt := Q } σ H) :
    CalX P w K mg base (k + 1) x ps sp := by
  refine ⟨f, fd, FunD.ok F S len (fun cdv A outer s H vs Q E hr h => ?_), hm, F.kp, ?_⟩
  · obtain ⟨t, σ, h1, rfl, h2⟩ := body cdv A outer s H vs Q E hr h
    exact ⟨t, h1, h2⟩
  obtain ⟨oc, od, dV, kV, doc, pm, an, cdv, ct, osl, rfl, lk, hcd, hd, hk⟩ := F.ex
  rcases hd with ⟨_, rfl⟩ | ⟨z, _⟩
  · exact .all fun us hu => hb .none kV doc pm an cdv ct us hu
  · exact absurd rfl z
end
section
variable {X : Cx} {e : Expr} {es : List Expr} {ta tb : TE} {t : TA} {pos p : Pos}
theorem hu64 {k : Nat} (hr : Room k X.A) : X.A.units + 64 < cLine := hr.units
theorem hu65 {k : Nat} (hr : Room k X.A) : X.A.units + 65 < cLine := by
  have := hr.un
  omega
theorem pe_callC {k : Nat} {x : Str} {ps : List Str} {sp : Sp} (C : Cal X.prog X.w X.K X.mg X.base k x ps sp) (hr : Room k X.A) (hg : Gl X x) (ha : PA X (e :: es) t)
    (hdb : (x == ("__debug__" : Str)) = false := by decide) (he : starEach (e :: es) X.env = (false, eval e X.env) :: starEach es X.env := by rfl) (hpl : (backTo pos (starEach es X.env)).any (·.1) = false := by rfl) :
    PE X (.Call (.Name x p) (e :: es) [] pos) (tCall sp [] E0 t) := by
  obtain ⟨f, fd, h1, h2, h3, h4⟩ := C
  exact pe_call h1 hr hg h2 h3 h4 .nil pass0 ha hdb he hpl
theorem pe_call0C {k : Nat} {x : Str} {ps : List Str} {sp : Sp} (C : Cal X.prog X.w X.K X.mg X.base k x ps sp) (hr : Room k X.A) (hg : Gl X x)
    (hdb : (x == ("__debug__" : Str)) = false := by decide) : PE X (.Call (.Name x p) [] [] pos) (tCall sp [] E0 tNil) := by
  obtain ⟨f, fd, h1, h2, h3, h4⟩ := C
  exact pe_call0 h1 hr hg h2 h3 h4 .nil pass0 hdb
/-- a call of a def that may raise: what is wished for it stands at the caller's slots -/
theorem pe_callXC {k : Nat} {x : Str} {ps : List Str} {sp : Sp} {E : L2.St → XK} (C : CalX X.prog X.w X.K X.mg X.base k x ps sp) (hr : Room k X.A) (hg : Gl X x) (hx : ∀ σ, PassesAt (L2.CX X.prog X.w) X σ (E σ)) (ha : PA X (e :: es) t)
    (hdb : (x == ("__debug__" : Str)) = false := by decide) (he : starEach (e :: es) X.env = (false, eval e X.env) :: starEach es X.env := by rfl) (hpl : (backTo pos (starEach es X.env)).any (·.1) = false := by rfl) :
    PE X (.Call (.Name x p) (e :: es) [] pos) (tCallS sp E t) := by
  obtain ⟨f, fd, h1, h2, h3, h4⟩ := C
  exact pe_callS h1 hr hg h2 h3 h4 hx ha hdb he hpl

theorem pe_bty {x : Str} {n : String} (hg : Gl X x) (hm : X.mg x = none) (hv : bootBuiltins x = some (.type n)) (hn : x ≠ "__name__" := by decide) (hd : (x == ("__debug__" : Str)) = false := by decide) : PE X (.Name x pos) (tC (.ty n)) := pe_bltn hg hm hv rfl hn hd
theorem pe_gref {x : Str} {a : Addr} (hg : Gl X x) (hm : X.mg x = some (.ref a)) (hd : (x == ("__debug__" : Str)) = false := by decide) : PE X (.Name x pos) (tC (.ref a)) := pe_glob hg hm rfl hd
theorem pe_gint {x : Str} {i : Int} (hg : Gl X x) (hm : ∃ t, X.mg x = some (.int i t)) (hd : (x == ("__debug__" : Str)) = false := by decide) : PE X (.Name x pos) (tC (.int i)) := by
  obtain ⟨t, h⟩ := hm
  exact pe_glob hg h ⟨t, rfl⟩ hd
theorem pe_gstr {x z : Str} (hg : Gl X x) (hm : ∃ t, X.mg x = some (.str z t)) (hd : (x == ("__debug__" : Str)) = false := by decide) : PE X (.Name x pos) (tC (.str z)) := by
  obtain ⟨t, h⟩ := hm
  exact pe_glob hg h ⟨t, rfl⟩ hd
/-! ### operators of more than one kind -/
def rAddA (K : PySem.W.Frag) : R2 := fun x y H Q => rI0 (fun i j => .int (i + j)) x y H Q ∨ rCat x y H Q ∨ rCatA K x y H Q ∨ ∃ i j, x = .str i ∧ y = .str j ∧ i.length + j.length ≤ sizeLine ∧ Q (.str (i ++ j)) H
theorem op_addA : OpR X (binaryOp .Add) (rAddA X.K) := op_add.or (op_cat.or (op_catA.or op_add_str))
def rMulA (K : PySem.W.Frag) : R2 := fun x y H Q => rI CMul (fun i j => .int (i * j)) x y H Q ∨ rRep x y H Q ∨ rRepT K x y H Q
theorem op_mulA : OpR X (binaryOp .Mult) (rMulA X.K) := op_mul.or (op_rep.or op_repT)
def rEqA (K : PySem.W.Frag) : R2 := fun x y H Q => rEq x y H Q ∨ rEqD K x y H Q
theorem op_eqA (hu : X.A.units + 64 < cLine) : OpR X (compareOp .Eq) (rEqA X.K) := op_eq.or (op_eqD hu)
def rNeA (K : PySem.W.Frag) : R2 := fun x y H Q => rNe x y H Q ∨ rNeD K x y H Q
theorem op_neA (hu : X.A.units + 64 < cLine) : OpR X (compareOp .NotEq) (rNeA X.K) := op_ne.or (op_neD hu)
abbrev rInSgn : R2 := fun x y H Q => ∃ (c : Nat) (z : Str), x = .str ⟨#[c]⟩ ∧ y = .str z ∧ Q (.bl (decide (c ∈ z.cps.toList))) H
abbrev rNiSgn : R2 := fun x y H Q => ∃ (c : Nat) (z : Str), x = .str ⟨#[c]⟩ ∧ y = .str z ∧ Q (.bl (!decide (c ∈ z.cps.toList))) H
def rInA (K : PySem.W.Frag) : R2 := fun x y H Q => rIn K false x y H Q ∨ rInD K x y H Q ∨ rInSgn x y H Q
theorem op_inA (hu : X.A.units + 65 < cLine) : OpR X (compareOp .In) (rInA X.K) := op_in_seq.or ((op_inD hu).or op_in_sign)
def rNiA (K : PySem.W.Frag) : R2 := fun x y H Q => rIn K true x y H Q ∨ rNotInD K x y H Q ∨ rNiSgn x y H Q
theorem op_niA (hu : X.A.units + 65 < cLine) : OpR X (compareOp .NotIn) (rNiA X.K) := op_notIn_seq.or ((op_notInD hu).or op_notIn_sign)
def rIsA : R2 := fun x y H Q => (y = .non ∧ Q (.bl (decide (x = .non))) H) ∨ rIsB x y H Q
theorem op_isA : OpR X (compareOp .Is) rIsA := op_isN.or op_isBl
def rIsntA : R2 := fun x y H Q => (y = .non ∧ Q (.bl (!decide (x = .non))) H) ∨ rNotB x y H Q
theorem op_isnotA : OpR X (compareOp .IsNot) rIsntA := op_notN.or op_notBl
def rSlAny (K : PySem.W.Frag) : V → Option Int → Option Int → Hp → VK → Prop := fun x lo hi H Q => rSlL K x lo hi H Q ∨ rSlA K x lo hi H Q ∨ rSlS x lo hi H Q
theorem sl_anyA : SlR X (rSlAny X.K) := sl_list.or (sl_tupA.or sl_str)
def rPopA : V → List V → Hp → VK → Prop := fun x vs H Q => rPop x vs H Q ∨ rPopAt x vs H Q
theorem mt_popA : MtR X "list.pop" rPopA := MtR.or mt_pop mt_popAt
def rIntA : List V → Hp → VK → Prop := fun xs H Q => (∃ i, xs = [.int i] ∧ Q (.int i) H) ∨ (∃ k, xs = [.bl k] ∧ Q (.int (if k then 1 else 0)) H)
theorem call_intA : CallR X (.type "int") rIntA := call_int1
def rLenA (K : PySem.W.Frag) : List V → Hp → VK → Prop := fun xs H Q => ∃ x n, xs = [x] ∧ LenV K x H n ∧ Q (.int n) H
theorem call_lenA : CallR X (.builtin "len") (rLenA X.K) := call_len
def rListA (K : PySem.W.Frag) : List V → Hp → VK → Prop := fun xs H Q => ∃ p ys, xs = [.ref p] ∧ (SqL K H p ys ∨ SqT K H p ys) ∧ ∀ l, H l = none → Q (.ref l) (upd H l (.lst ys))
theorem call_listA : CallR X (.type "list") (rListA X.K) := call_list_of
def rTupA (K : PySem.W.Frag) : List V → Hp → VK → Prop := fun xs H Q => ∃ p ys, xs = [.ref p] ∧ ((SqL K H p ys ∧ ∀ l, H l = none → Q (.ref l) (upd H l (.tup ys))) ∨ (SqT K H p ys ∧ Q (.ref p) H))
theorem call_tupA : CallR X (.type "tuple") (rTupA X.K) := call_tuple_of
def rJoinA (K : PySem.W.Frag) : V → List V → Hp → VK → Prop := fun x xs H Q => ∃ a p, ∃ ys : List Str, x = .str a ∧ xs = [.ref p] ∧ (SqL K H p (ys.map V.str) ∨ SqT K H p (ys.map V.str)) ∧ (ys.map (·.length)).sum + ys.length * a.length ≤ 16777216 ∧ Q (.str (Txt.join a ys)) H
theorem pe_joinA {o : Expr} {to : TE} {apos : Pos} (ho : PE X o to) (he : PE X e ta) (hs : starEach [e] X.env = [(false, eval e X.env)] := by rfl) (hbase : attributeBase o "join" X.env (eval o X.env) = eval o X.env := by rfl) (hline : (apos.endLine == pos.line) = true := by rfl) :
    PE X (.Call (.Attribute o "join" apos) [e] [] pos) (tM1 (rJoinA X.K) to ta) := pe_join ho he hs hbase hline
/-! ### a statement, then the rest, with a word between them -/
abbrev tCut : TS → TS → TS := C8.tCut
theorem pss_cut {st : Stmt} {rest : List Stmt} {t u : TS} (h1 : PS X st t) (h2 : PSs X rest u) : PSs X (st :: rest) (tCut t u) := C8.pss_cut h1 h2
/-! ### what a for walks: a list, a tuple, a text -/
theorem pi_or {tg it : Expr} {w1 w2 : TI} (h1 : PI X tg it w1) (h2 : PI X tg it w2) : PI X tg it (fun σ H R => w1 σ H R ∨ w2 σ H R) := ⟨fun pins s σ H R I h => by
  rcases h with h | h
  · exact h1.run pins s σ H R I h
  · exact h2.run pins s σ H R I h⟩
def iSeqA (K : PySem.W.Frag) (te : TE) : TI := fun σ H R => iList K te σ H R ∨ iTup K te σ H R ∨ iStr te σ H R
theorem pi_seqA {tg : Expr} (he : PE X e ta) : PI X tg e (iSeqA X.K ta) := pi_or (pi_list he) (pi_or (pi_tup he) (pi_str he))
end
end Cw

set_option maxHeartbeats 4000000
namespace Cw
open PySem PySem.Spec PyProof.Rows L2
/-! ### readings, one step each -/
section
variable {K : PySem.W.Frag} {σ : L2.St} {G H : Hp} {Q : VK} {D : Ends} {ta tb tc : TE} {t u : TS} {c c2 : TT} {x y v : V} {i j n : Int} {r : R2}
theorem q_seq (h : t { D with nx := u D } σ H) : tSeq t u D σ H := h
theorem q_asg {k : Nat} (h : ta σ H fun x H1 => D.nx (σ.set k (some x)) H1) : tAsg ta (gName k) D σ H := h
theorem q_asgG {g : TG} (h : ta σ H fun x H1 => g x σ H1 D.nx) : tAsg ta g D σ H := h
theorem q_sub {s : TSet} {R : L2.St → Hp → Prop} (h : ta σ H fun o H1 => tb σ H1 fun i H2 => s o i v H2 fun H3 => R σ H3) : gSub ta tb s v σ H R := h
theorem q_ret (h : ta σ H D.rt) : tRet ta D σ H := h
theorem q_retN (h : D.rt .non H) : tRetN D σ H := h
theorem q_drop (h : ta σ H fun _ H1 => D.nx σ H1) : tDrop ta D σ H := h
theorem q_next (h : D.nx σ H) : tNext D σ H := h
theorem q_ifs (h : c σ H fun b H1 => if b = true then t D σ H1 else u D σ H1) : tIfS c t u D σ H := h
theorem q_op (h : ta σ H fun x H1 => tb σ H1 fun y H2 => r x y H2 Q) : tOp r ta tb σ H Q := h
theorem q_un {r : V → Hp → VK → Prop} (h : ta σ H fun x H1 => r x H1 Q) : tUn r ta σ H Q := h
theorem q_var {k : Nat} (h : σ[k]? = some (some v)) (q : Q v H) : tVar k σ H Q := ⟨v, h, q⟩
theorem q_c (q : Q v H) : tC v σ H Q := q
theorem q_nil {Q : List V → Hp → Prop} (q : Q [] H) : tNil σ H Q := q
theorem q_cons {ts : TA} {Q : List V → Hp → Prop} (h : ta σ H fun x H1 => ts σ H1 fun xs H2 => Q (x :: xs) H2) : tCons ta ts σ H Q := h
theorem q_cb {ts : TA} {r : List V → Hp → VK → Prop} (h : ts σ H fun vs H1 => r vs H1 Q) : tCB r ts σ H Q := h
theorem q_call {ts : TA} {sp : Sp} {E : XK} (h : ts σ H fun vs H1 => sp (vs ++ []) H1 Q E) : tCall sp [] E ts σ H Q := h
theorem q_test {Q : Bool → Hp → Prop} (h : ta σ H fun x H1 => ∃ k, x = .bl k ∧ Q k H1) : tTest ta σ H Q := h
theorem q_B {Q : Bool → Hp → Prop} (h : ta σ H fun x H1 => ∃ k, x = .bl k ∧ Q k H1) : tB ta σ H Q := h
theorem q_bl {b : Bool} {Q : Bool → Hp → Prop} (h : Q b H) : ∃ k, V.bl b = .bl k ∧ Q k H := ⟨b, rfl, h⟩
theorem q_and {Q : Bool → Hp → Prop} (h : c σ H fun b H1 => if b = true then c2 σ H1 Q else Q false H1) : tAnd c c2 σ H Q := h
theorem q_or {Q : Bool → Hp → Prop} (h : c σ H fun b H1 => if b = true then Q true H1 else c2 σ H1 Q) : tOr c c2 σ H Q := h
theorem q_not {Q : Bool → Hp → Prop} (h : c σ H fun b H1 => Q (!b) H1) : tNot c σ H Q := h
theorem q_andV (h : ta σ H fun x H1 => ∃ c, x = .bl c ∧ if c = true then tb σ H1 Q else Q (.bl false) H1) : tAndV ta tb σ H Q := h
theorem q_orV (h : ta σ H fun x H1 => ∃ c, x = .bl c ∧ if c = true then Q (.bl true) H1 else tb σ H1 Q) : tOrV ta tb σ H Q := h
theorem q_notV (h : ta σ H fun x H1 => ∃ c, x = .bl c ∧ Q (.bl (!c)) H1) : tNotV ta σ H Q := h
theorem q_ife (h : c σ H fun b H1 => if b = true then ta σ H1 Q else tb σ H1 Q) : tIf c ta tb σ H Q := h
theorem q_blI {b : Bool} {R : Bool → Prop} (h : R b) : ∃ k, V.bl b = .bl k ∧ R k := ⟨b, rfl, h⟩
theorem q_tup {ts : TA} (h : ts σ H fun xs H1 => xs.length ≤ sizeLine ∧ ∀ p, H1 p = none → Q (.ref p) (upd H1 p (.tup xs))) : tTup ts σ H Q := h
theorem q_lst {ts : TA} (h : ts σ H fun xs H1 => xs.length ≤ sizeLine ∧ ∀ p, H1 p = none → Q (.ref p) (upd H1 p (.lst xs))) : tLst ts σ H Q := h
theorem q_sl {r : V → Option Int → Option Int → Hp → VK → Prop} {tl th : TO} (h : ta σ H fun x H1 => tl σ H1 fun l H2 => th σ H2 fun u H3 => r x l u H3 Q) : tSl r ta tl th σ H Q := h
theorem q_no {Q : Option Int → Hp → Prop} (h : Q none H) : tNoPart σ H Q := h
theorem q_part {Q : Option Int → Hp → Prop} (h : ta σ H fun x H1 => ∃ i, x = .int i ∧ Q (some i) H1) : tPart ta σ H Q := h
theorem q_some {Q : Option Int → Hp → Prop} (h : Q (some i) H) : ∃ k, V.int i = .int k ∧ Q (some k) H := ⟨i, rfl, h⟩
theorem q_cut {M : L2.St → Hp → Prop} (h : t { D with nx := M } σ H) (k : ∀ σ' H', M σ' H' → u D σ' H') : tCut t u D σ H := ⟨M, h, k⟩
/-! operators -/
theorem q_add (q : Q (.int (i + j)) H) : rAddA K (.int i) (.int j) H Q := .inl ⟨i, j, rfl, rfl, q⟩
theorem q_sub2 (q : Q (.int (i - j)) H) : rI0 (fun i j => .int (i - j)) (.int i) (.int j) H Q := ⟨i, j, rfl, rfl, q⟩
theorem q_mul (h : (-(2 ^ 64) < i ∧ i < 2 ^ 64) ∨ (-(2 ^ 64) < j ∧ j < 2 ^ 64)) (q : Q (.int (i * j)) H) : rMulA K (.int i) (.int j) H Q := .inl ⟨i, j, rfl, rfl, h, q⟩
theorem q_mod (h : 0 < j) (q : Q (.int (i % j)) H) : rI (fun _ j => 0 < j) (fun i j => .int (i % j)) (.int i) (.int j) H Q := ⟨i, j, rfl, rfl, h, q⟩
theorem q_fdiv (h : 0 < j ∧ j < 1073741824) (q : Q (.int (i / j)) H) : rI CDiv (fun i j => .int (i / j)) (.int i) (.int j) H Q := ⟨i, j, rfl, rfl, h, q⟩
theorem q_pow (h : CPow i j) (q : Q (.int (i ^ j.toNat)) H) : rI CPow (fun i j => .int (i ^ j.toNat)) (.int i) (.int j) H Q := ⟨i, j, rfl, rfl, h, q⟩
theorem q_neg (q : Q (.int (-i)) H) : rU (fun i => .int (-i)) (.int i) H Q := ⟨i, rfl, q⟩
theorem q_int (q : Q (.int i) H) : rIntA [.int i] H Q := .inl ⟨i, rfl, q⟩
theorem q_intB {b : Bool} (q : Q (.int (if b then 1 else 0)) H) : rIntA [.bl b] H Q := .inr ⟨b, rfl, q⟩
theorem q_lt (q : Q (.bl (decide (i < j))) H) : rI0 (fun i j => .bl (decide (i < j))) (.int i) (.int j) H Q := ⟨i, j, rfl, rfl, q⟩
theorem q_le (q : Q (.bl (decide (i ≤ j))) H) : rI0 (fun i j => .bl (decide (i ≤ j))) (.int i) (.int j) H Q := ⟨i, j, rfl, rfl, q⟩
theorem q_gt (q : Q (.bl (decide (j < i))) H) : rI0 (fun i j => .bl (decide (j < i))) (.int i) (.int j) H Q := ⟨i, j, rfl, rfl, q⟩
theorem q_ge (q : Q (.bl (decide (j ≤ i))) H) : rI0 (fun i j => .bl (decide (j ≤ i))) (.int i) (.int j) H Q := ⟨i, j, rfl, rfl, q⟩
theorem dec_i : decide (V.int i = V.int j) = decide (i = j) := by
  rw [Bool.eq_iff_iff]
  simp
theorem dec_s {a b : Str} : decide (V.str a = V.str b) = decide (a = b) := by
  rw [Bool.eq_iff_iff]
  simp
theorem dec_b {a b : Bool} : decide (V.bl a = V.bl b) = decide (a = b) := by
  rw [Bool.eq_iff_iff]
  simp
theorem q_eqI (q : Q (.bl (decide (i = j))) H) : rEqA K (.int i) (.int j) H Q := .inl ⟨rfl, by rw [dec_i]; exact q⟩
theorem q_neI (q : Q (.bl (!decide (i = j))) H) : rNeA K (.int i) (.int j) H Q := .inl ⟨rfl, by rw [dec_i]; exact q⟩
theorem q_eqS {a b : Str} (q : Q (.bl (decide (a = b))) H) : rEqA K (.str a) (.str b) H Q := .inl ⟨rfl, by rw [dec_s]; exact q⟩
theorem q_neS {a b : Str} (q : Q (.bl (!decide (a = b))) H) : rNeA K (.str a) (.str b) H Q := .inl ⟨rfl, by rw [dec_s]; exact q⟩
theorem q_eqB {a b : Bool} (q : Q (.bl (decide (a = b))) H) : rEqA K (.bl a) (.bl b) H Q := .inl ⟨rfl, by rw [dec_b]; exact q⟩
theorem q_neB {a b : Bool} (q : Q (.bl (!decide (a = b))) H) : rNeA K (.bl a) (.bl b) H Q := .inl ⟨rfl, by rw [dec_b]; exact q⟩
theorem q_isN (q : Q (.bl (decide (x = .non))) H) : rIsA x .non H Q := .inl ⟨rfl, q⟩
theorem q_isntN (q : Q (.bl (!decide (x = .non))) H) : rIsntA x .non H Q := .inl ⟨rfl, q⟩
theorem q_isB {a b : Bool} (q : Q (.bl (decide (a = b))) H) : rIsA (.bl a) (.bl b) H Q := .inr ⟨a, b, rfl, rfl, q⟩
/-! an item -/
theorem q_ixL {a : Addr} {xs : List V} (h : SqL K H a xs) (e : atI xs i = some v) (q : Q v H) : rIx K (.ref a) (.int i) H Q := .inl ⟨a, xs, i, v, rfl, rfl, h, e, q⟩
theorem q_ixC {a : Addr} {xs : List V} (h : H a = some (.lst xs)) (e : atI xs i = some v) (q : Q v H) : rIx K (.ref a) (.int i) H Q := q_ixL (.inl (.inl h)) e q
theorem q_ixT {a : Addr} {xs : List V} (h : SqT K H a xs) (e : atI xs i = some v) (q : Q v H) : rIx K (.ref a) (.int i) H Q := .inr (.inl ⟨a, xs, i, v, rfl, rfl, h, e, q⟩)
theorem q_set {a : Addr} {xs : List V} {k : Nat} {R : Hp → Prop} (h : H a = some (.lst xs)) (e : ixN xs.length i = some k) (q : R (upd H a (.lst (xs.set k v)))) : rSetL (.ref a) (.int i) v H R := ⟨a, xs, i, k, rfl, rfl, h, e, q⟩
theorem q_lenC {a : Addr} {xs : List V} (h : SqL K H a xs) (q : Q (.int (xs.length : Nat)) H) : rLenA K [.ref a] H Q := ⟨_, _, rfl, .inl ⟨xs, h, rfl⟩, q⟩
theorem q_lenT {a : Addr} {xs : List V} (h : SqT K H a xs) (q : Q (.int (xs.length : Nat)) H) : rLenA K [.ref a] H Q := ⟨_, _, rfl, .inr ⟨xs, h, rfl⟩, q⟩
theorem q_lenS {z : Str} (h : z.length ≤ sizeLine) (q : Q (.int (z.length : Nat)) H) : rLenA K [.str z] H Q := ⟨_, _, rfl, ⟨h, rfl⟩, q⟩
/-! branches -/
theorem q_ift {A B : Prop} (h : A) : if true = true then A else B := iteT h
theorem q_iff {A B : Prop} (h : B) : if false = true then A else B := iteF h
theorem q_ifd {p A B : Prop} [Decidable p] (h1 : p → A) (h2 : ¬ p → B) : if decide p = true then A else B := by
  by_cases h : p
  · rw [if_pos (decide_eq_true h)]
    exact h1 h
  · rw [if_neg (by rw [decide_eq_false h]; decide)]
    exact h2 h
theorem q_ifnd {p A B : Prop} [Decidable p] (h1 : ¬ p → A) (h2 : p → B) : if (!decide p) = true then A else B := by
  by_cases h : p
  · rw [if_neg (by rw [decide_eq_true h]; decide)]
    exact h2 h
  · rw [if_pos (by rw [decide_eq_false h]; decide)]
    exact h1 h
theorem q_ifb {b : Bool} {A B : Prop} (h1 : b = true → A) (h2 : b = false → B) : if b = true then A else B := by
  cases b with
  | true => exact iteT (h1 rfl)
  | false => exact iteF (h2 rfl)
theorem upd_id {a : Addr} {o : HO} (h : H a = some o) : upd H a o = H := by
  funext b
  by_cases e : b = a
  · subst e
    rw [upd_same, h]
  · rw [upd_ne e]
theorem q_setU {a : Addr} {xs : List V} {k : Nat} {R : Hp → Prop} (e : ixN xs.length i = some k) (q : R (upd H a (.lst (xs.set k v)))) : rSetL (.ref a) (.int i) v (upd H a (.lst xs)) R := q_set upd_same e (by rw [upd_upd]; exact q)
theorem q_ixU {a : Addr} {xs : List V} (e : atI xs i = some v) (q : Q v (upd H a (.lst xs))) : rIx K (.ref a) (.int i) (upd H a (.lst xs)) Q := q_ixC upd_same e q
theorem q_ixInts {a : Addr} {ns : List Int} (h : SqL K H a (ns.map V.int)) (h0 : 0 ≤ i) (h1 : i < ns.length) (q : ∀ n : Int, n ∈ ns → Q (.int n) H) : rIx K (.ref a) (.int i) H Q := by
  obtain ⟨k, rfl⟩ := Int.eq_ofNat_of_zero_le h0
  have hk : k < ns.length := by omega
  exact q_ixL h (atI_nat (v := .int ns[k]) (by rw [List.getElem?_map, List.getElem?_eq_getElem hk] <;> rfl)) (q _ (List.getElem_mem hk))
end
theorem cxK {CXX : CXT} {P : Program} {w : World} {K : PySem.W.Frag} {mg : Str → Option Value} {base : Heap} {N : List Str} {q : Str} {sc : Scope} {f : Addr} {cd : Value} {A : Around} {o : List Env} {s : Shared} {H : Hp} {E : XK} : (cxOf CXX P w K mg base N q sc f cd A o s H E).nox.K = K := rfl
theorem cxK2 {CXX : CXT} {P : Program} {w : World} {K : PySem.W.Frag} {mg : Str → Option Value} {base : Heap} {N : List Str} {q : Str} {sc : Scope} {f : Addr} {cd : Value} {A : Around} {o : List Env} {s : Shared} {H : Hp} {E : XK} : (cxOf CXX P w K mg base N q sc f cd A o s H E).K = K := rfl
end Cw

set_option maxHeartbeats 4000000
namespace Cw
open PySem PySem.Spec PyProof.Rows L2
/-! ### isinstance of data -/
def tyN : PyData → String
  | .none => "NoneType"
  | .bool _ => "bool"
  | .int _ => "int"
  | .str _ => "str"
  | .list _ => "list"
  | .tuple _ => "tuple"
  | .dict _ => "dict"
theorem tyx_l {K : PySem.W.Frag} {H : Hp} {a : Addr} {xs : List V} (h : SqL K H a xs) : TyX K H (.ref a) (.type "list") := by
  rcases h with (h | ⟨o, h⟩) | ⟨o, its, n, h1, h2, h3⟩
  · exact .base (.lst h)
  · exact .base (.frz h)
  · exact .kList h1 h2
theorem tyx_t {K : PySem.W.Frag} {H : Hp} {a : Addr} {xs : List V} (h : SqT K H a xs) : TyX K H (.ref a) (.type "tuple") := by
  rcases h with (h | ⟨o, h⟩) | ⟨o, its, n, h1, h2, h3⟩
  · exact .base (.tup h)
  · exact .fTuple h
  · exact .kTuple h1 h2
theorem tyx_of {K : PySem.W.Frag} {G H : Hp} (e : Ex G H) {v : V} {d : PyData} (h : Rp K G v d) : TyX K H v (.type (tyN d)) := by
  cases h with
  | non => exact .base .non
  | bl b => exact .base (.bl b)
  | int i => exact .base (.int i)
  | str x => exact .base (.str x)
  | lst h _ => exact .base (.lst (e _ _ h))
  | tup h _ => exact tyx_t (e.st h)
def dInt : PyData → Bool
  | .int _ => true
  | .bool _ => true
  | _ => false
def dBool : PyData → Bool
  | .bool _ => true
  | _ => false
def dStr : PyData → Bool
  | .str _ => true
  | _ => false
def dLst : PyData → Bool
  | .list _ => true
  | _ => false
def dTup : PyData → Bool
  | .tuple _ => true
  | _ => false
def dSeq : PyData → Bool
  | .tuple _ => true
  | .list _ => true
  | _ => false
def isN (a n : String) : Bool := a == n || (a == "bool" && n == "int")
abbrev isI (d : PyData) (n : String) : Bool := isN (tyN d) n
theorem kitB_isI (d : PyData) {n : String} (hn : n = "int" ∨ n = "bool" ∨ n = "str" ∨ n = "list" ∨ n = "tuple") : kitB (tyN d) n = some (isI d n) := by
  have key : ∀ a ∈ ["NoneType", "bool", "int", "str", "list", "tuple", "dict"], ∀ n ∈ ["int", "bool", "str", "list", "tuple"], kitB a n = some (isN a n) := by decide +kernel
  refine key _ ?_ n ?_
  · cases d <;> simp [tyN]
  · rcases hn with rfl | rfl | rfl | rfl | rfl <;> simp
section
variable {K : PySem.W.Frag} {G H : Hp} {Q : VK} {v : V} {d : PyData}
theorem q_isi {n : String} (h : Rp K G v d) (e : Ex G H) (hn : n = "int" ∨ n = "bool" ∨ n = "str" ∨ n = "list" ∨ n = "tuple") (q : Q (.bl (isI d n)) H) : rIsi K [v, .ty n] H Q :=
  ⟨v, .ty n, _, .type n, _, rfl, .ty n, tyx_of e h, kit_ty (kitB_isI d hn), q⟩
theorem q_isi2 {n m : String} {p : Addr} (h : Rp K G v d) (e : Ex G H) (hp : H p = some (.tup [.ty n, .ty m])) (hn : n = "int" ∨ n = "bool" ∨ n = "str" ∨ n = "list" ∨ n = "tuple") (hm : m = "int" ∨ m = "bool" ∨ m = "str" ∨ m = "list" ∨ m = "tuple")
    (q : Q (.bl (isI d n || isI d m)) H) : rIsiT K [v, .ref p] H Q := by
  refine ⟨v, p, _, _, [.type n, .type m], _, rfl, hp, .cons (.ty n) (.cons (.ty m) .nil), tyx_of e h, ?_, q⟩
  have h1 : PySem.W.kitOne K (.type (tyN d)) (.type n) = some (isI d n) := kit_ty (kitB_isI d hn)
  have h2 : PySem.W.kitOne K (.type (tyN d)) (.type m) = some (isI d m) := kit_ty (kitB_isI d hm)
  unfold PySem.W.kitAny
  rw [h1]
  cases isI d n with
  | true => rfl
  | false =>
    unfold PySem.W.kitAny
    rw [h2]
    cases isI d m <;> rfl
theorem q_isiInt (h : Rp K G v d) (e : Ex G H) (q : Q (.bl (dInt d)) H) : rIsi K [v, .ty "int"] H Q :=
  q_isi h e (by simp) (by cases d <;> exact q)
theorem q_isiBool (h : Rp K G v d) (e : Ex G H) (q : Q (.bl (dBool d)) H) : rIsi K [v, .ty "bool"] H Q :=
  q_isi h e (by simp) (by cases d <;> exact q)
theorem q_isiStr (h : Rp K G v d) (e : Ex G H) (q : Q (.bl (dStr d)) H) : rIsi K [v, .ty "str"] H Q :=
  q_isi h e (by simp) (by cases d <;> exact q)
theorem q_isiLst (h : Rp K G v d) (e : Ex G H) (q : Q (.bl (dLst d)) H) : rIsi K [v, .ty "list"] H Q :=
  q_isi h e (by simp) (by cases d <;> exact q)
theorem q_isiTup (h : Rp K G v d) (e : Ex G H) (q : Q (.bl (dTup d)) H) : rIsi K [v, .ty "tuple"] H Q :=
  q_isi h e (by simp) (by cases d <;> exact q)
theorem q_isiTL {p : Addr} (h : Rp K G v d) (e : Ex G H) (hp : H p = some (.tup [.ty "tuple", .ty "list"])) (q : Q (.bl (dSeq d)) H) : rIsiT K [v, .ref p] H Q :=
  q_isi2 h e hp (by simp) (by simp) (by cases d <;> exact q)
theorem q_isiLT {p : Addr} (h : Rp K G v d) (e : Ex G H) (hp : H p = some (.tup [.ty "list", .ty "tuple"])) (q : Q (.bl (dSeq d)) H) : rIsiT K [v, .ref p] H Q :=
  q_isi2 h e hp (by simp) (by simp) (by cases d <;> exact q)
theorem q_iNonInt (q : Q (.bl false) H) : rIsi K [.non, .ty "int"] H Q := q_isiInt (Rp.non (K := K) (G := H)) (Ex.refl H) q
theorem q_iNonBool (q : Q (.bl false) H) : rIsi K [.non, .ty "bool"] H Q := q_isiBool (Rp.non (K := K) (G := H)) (Ex.refl H) q
theorem q_iNonStr (q : Q (.bl false) H) : rIsi K [.non, .ty "str"] H Q := q_isiStr (Rp.non (K := K) (G := H)) (Ex.refl H) q
theorem q_iNonLst (q : Q (.bl false) H) : rIsi K [.non, .ty "list"] H Q := q_isiLst (Rp.non (K := K) (G := H)) (Ex.refl H) q
theorem q_iNonTup (q : Q (.bl false) H) : rIsi K [.non, .ty "tuple"] H Q := q_isiTup (Rp.non (K := K) (G := H)) (Ex.refl H) q
theorem q_iBlInt {b : Bool} (q : Q (.bl true) H) : rIsi K [.bl b, .ty "int"] H Q := q_isiInt (Rp.bl (K := K) (G := H) b) (Ex.refl H) q
theorem q_iBlBool {b : Bool} (q : Q (.bl true) H) : rIsi K [.bl b, .ty "bool"] H Q := q_isiBool (Rp.bl (K := K) (G := H) b) (Ex.refl H) q
theorem q_iBlStr {b : Bool} (q : Q (.bl false) H) : rIsi K [.bl b, .ty "str"] H Q := q_isiStr (Rp.bl (K := K) (G := H) b) (Ex.refl H) q
theorem q_iBlLst {b : Bool} (q : Q (.bl false) H) : rIsi K [.bl b, .ty "list"] H Q := q_isiLst (Rp.bl (K := K) (G := H) b) (Ex.refl H) q
theorem q_iBlTup {b : Bool} (q : Q (.bl false) H) : rIsi K [.bl b, .ty "tuple"] H Q := q_isiTup (Rp.bl (K := K) (G := H) b) (Ex.refl H) q
theorem q_iInInt {i : Int} (q : Q (.bl true) H) : rIsi K [.int i, .ty "int"] H Q := q_isiInt (Rp.int (K := K) (G := H) i) (Ex.refl H) q
theorem q_iInBool {i : Int} (q : Q (.bl false) H) : rIsi K [.int i, .ty "bool"] H Q := q_isiBool (Rp.int (K := K) (G := H) i) (Ex.refl H) q
theorem q_iInStr {i : Int} (q : Q (.bl false) H) : rIsi K [.int i, .ty "str"] H Q := q_isiStr (Rp.int (K := K) (G := H) i) (Ex.refl H) q
theorem q_iInLst {i : Int} (q : Q (.bl false) H) : rIsi K [.int i, .ty "list"] H Q := q_isiLst (Rp.int (K := K) (G := H) i) (Ex.refl H) q
theorem q_iInTup {i : Int} (q : Q (.bl false) H) : rIsi K [.int i, .ty "tuple"] H Q := q_isiTup (Rp.int (K := K) (G := H) i) (Ex.refl H) q
theorem q_iStInt {x : Str} (q : Q (.bl false) H) : rIsi K [.str x, .ty "int"] H Q := q_isiInt (Rp.str (K := K) (G := H) x) (Ex.refl H) q
theorem q_iStBool {x : Str} (q : Q (.bl false) H) : rIsi K [.str x, .ty "bool"] H Q := q_isiBool (Rp.str (K := K) (G := H) x) (Ex.refl H) q
theorem q_iStStr {x : Str} (q : Q (.bl true) H) : rIsi K [.str x, .ty "str"] H Q := q_isiStr (Rp.str (K := K) (G := H) x) (Ex.refl H) q
theorem q_iStLst {x : Str} (q : Q (.bl false) H) : rIsi K [.str x, .ty "list"] H Q := q_isiLst (Rp.str (K := K) (G := H) x) (Ex.refl H) q
theorem q_iStTup {x : Str} (q : Q (.bl false) H) : rIsi K [.str x, .ty "tuple"] H Q := q_isiTup (Rp.str (K := K) (G := H) x) (Ex.refl H) q
theorem line_of {n : Nat} (h : Nat.ble n 100000 = true) : n ≤ sizeLine := Nat.le_trans (Nat.le_of_ble_eq_true h) (by decide)
theorem q_ifTr {b : Bool} {A B : Prop} (h : b = true) (a : A) : if b = true then A else B := by
  rw [if_pos h]
  exact a
theorem q_ifFa {b : Bool} {A B : Prop} (h : b = false) (a : B) : if b = true then A else B := by
  rw [if_neg (by rw [h]; decide)]
  exact a
theorem q_ifdT {p A B : Prop} [Decidable p] (h : p) (a : A) : if decide p = true then A else B := by
  rw [if_pos (decide_eq_true h)]
  exact a
theorem q_ifdF {p A B : Prop} [Decidable p] (h : ¬ p) (b : B) : if decide p = true then A else B := by
  rw [if_neg (by rw [decide_eq_false h]; decide)]
  exact b
theorem q_ifndT {p A B : Prop} [Decidable p] (h : ¬ p) (a : A) : if (!decide p) = true then A else B := by
  rw [if_pos (by rw [decide_eq_false h]; decide)]
  exact a
theorem q_ifndF {p A B : Prop} [Decidable p] (h : p) (b : B) : if (!decide p) = true then A else B := by
  rw [if_neg (by rw [decide_eq_true h]; decide)]
  exact b
end
/-! ### data of less than n levels, none too wide -/
def Sm : Nat → PyData → Prop
  | 0, _ => False
  | n + 1, .list ds => ds.length ≤ 1000000 ∧ ∀ d ∈ ds, Sm n d
  | n + 1, .tuple ds => ds.length ≤ 1000000 ∧ ∀ d ∈ ds, Sm n d
  | _ + 1, .dict _ => False
  | _ + 1, _ => True
/-! ### data read -/
section
variable {K : PySem.W.Frag} {G H : Hp} {Q : VK} {v : V} {d : PyData} {ds : List PyData} {i : Int}
theorem Rps.atI {vs : List V} (h : Rps K G vs ds) (e : atI ds i = some d) : ∃ v, L2.atI vs i = some v ∧ Rp K G v d := by
  unfold L2.atI at e ⊢
  rw [h.len]
  cases q : ixN ds.length i with
  | none =>
    rw [q] at e
    cases e
  | some k =>
    rw [q] at e
    exact h.get e
theorem q_lenRL (h : Rp K G v (.list ds)) (e : Ex G H) (q : Q (.int (ds.length : Nat)) H) : rLenA K [v] H Q := by
  obtain ⟨a, vs, rfl, hS, hv⟩ := rp_lst h
  refine q_lenC (.inl (.inl (e _ _ hS))) ?_
  rw [hv.len]
  exact q
theorem q_lenRT (h : Rp K G v (.tuple ds)) (e : Ex G H) (q : Q (.int (ds.length : Nat)) H) : rLenA K [v] H Q := by
  obtain ⟨a, vs, rfl, hS, hv⟩ := rp_tup h
  refine q_lenT (e.st hS) ?_
  rw [hv.len]
  exact q
theorem q_ixRL (h : Rp K G v (.list ds)) (e : Ex G H) (hd : atI ds i = some d) (q : ∀ u, Rp K G u d → Q u H) : rIx K v (.int i) H Q := by
  obtain ⟨a, vs, rfl, hS, hv⟩ := rp_lst h
  obtain ⟨u, h1, h2⟩ := hv.atI hd
  exact q_ixL (.inl (.inl (e _ _ hS))) h1 (q u h2)
theorem q_ixRT (h : Rp K G v (.tuple ds)) (e : Ex G H) (hd : atI ds i = some d) (q : ∀ u, Rp K G u d → Q u H) : rIx K v (.int i) H Q := by
  obtain ⟨a, vs, rfl, hS, hv⟩ := rp_tup h
  obtain ⟨u, h1, h2⟩ := hv.atI hd
  exact q_ixT (e.st hS) h1 (q u h2)
theorem q_bt {b : Bool} (h : b = true) (q : Q (.bl true) H) : Q (.bl b) H := by
  rw [h]
  exact q
theorem q_bf {b : Bool} (h : b = false) (q : Q (.bl false) H) : Q (.bl b) H := by
  rw [h]
  exact q
theorem atI_at {ds : List PyData} {k : Nat} (h : k < ds.length) : atI ds (k : Int) = some ds[k] := atI_nat (List.getElem?_eq_getElem h)
theorem Ex.sLr {a : Addr} {xs : List V} (e : Ex G H) (h : G a = some (.lst xs)) : SqL K H a xs := .inl (.inl (e _ _ h))
end
/-! ### loops -/
section
variable {K : PySem.W.Frag} {σ : L2.St} {G H : Hp} {Q : VK} {D : Ends} {ta tb tc : TE} {t u : TS} {g : TG}
/-- what a walk over a range asks, its ends known -/
def kRng1 (g : TG) (t : TS) (D : Ends) (σ : L2.St) : List V → Hp → Prop := fun vs H1 => ∃ j : Int, vs = [.int j] ∧ -(2 ^ 62) ≤ j ∧ j < 2 ^ 62 ∧ ∃ W : Nat → Nat → L2.St → Hp → Prop, (∃ m, W 0 m σ H1) ∧ ∀ i m σ H, W i m σ H →
      ((Itr 0 j.toNat).stop i H ∧ D.nx σ H) ∨ ((Itr 0 j.toNat).go i H ∧ ∃ N : L2.St → Hp → Prop, (∀ σ' H', N σ' H' → ∃ m', m' < m ∧ W (i + 1) m' σ' H') ∧ ∀ x H', (Itr 0 j.toNat).yld i H x H' → g x σ H' fun σ2 H2 => t { D with nx := N, ct := N, bk := D.nx } σ2 H2)
theorem q_forR1 {ta : TA} (h : ta σ H (kRng1 g t D σ)) : tFor (iRng1 ta) g t D σ H := h
theorem q_rng1 (n : Nat) (hn : n ≤ 1000000) (Pv : Nat → L2.St → Hp → Prop) (h0 : Pv 0 σ H) (hs : ∀ i σ' H', i < n → Pv i σ' H' → g (.int i) σ' H' fun σ2 H2 => t { D with nx := Pv (i + 1), ct := Pv (i + 1), bk := D.nx } σ2 H2)
    (hd : ∀ σ' H', Pv n σ' H' → D.nx σ' H') : kRng1 g t D σ [.int (n : Nat)] H := by
  refine ⟨n, rfl, by omega, by omega, ?_⟩
  rw [Int.toNat_natCast]
  refine for_range (n := n) Pv h0 (fun i σ' H' hi p => ?_) hd
  rw [Int.zero_add]
  exact hs i σ' H' hi p
/-- .. over a list, a tuple -/
def kLst (K : PySem.W.Frag) (g : TG) (t : TS) (D : Ends) (σ : L2.St) : V → Hp → Prop := fun x H1 => ∃ a, x = .ref a ∧ (∃ xs, SqL K H1 a xs) ∧ ∃ W : Nat → Nat → L2.St → Hp → Prop, (∃ m, W 0 m σ H1) ∧ ∀ i m σ H, W i m σ H →
      ((Itl K a).stop i H ∧ D.nx σ H) ∨ ((Itl K a).go i H ∧ ∃ N : L2.St → Hp → Prop, (∀ σ' H', N σ' H' → ∃ m', m' < m ∧ W (i + 1) m' σ' H') ∧ ∀ x H', (Itl K a).yld i H x H' → g x σ H' fun σ2 H2 => t { D with nx := N, ct := N, bk := D.nx } σ2 H2)
def kTup (K : PySem.W.Frag) (g : TG) (t : TS) (D : Ends) (σ : L2.St) : V → Hp → Prop := fun x H1 => ∃ a, x = .ref a ∧ (∃ xs, SqT K H1 a xs) ∧ ∃ W : Nat → Nat → L2.St → Hp → Prop, (∃ m, W 0 m σ H1) ∧ ∀ i m σ H, W i m σ H →
      ((Itt K a).stop i H ∧ D.nx σ H) ∨ ((Itt K a).go i H ∧ ∃ N : L2.St → Hp → Prop, (∀ σ' H', N σ' H' → ∃ m', m' < m ∧ W (i + 1) m' σ' H') ∧ ∀ x H', (Itt K a).yld i H x H' → g x σ H' fun σ2 H2 => t { D with nx := N, ct := N, bk := D.nx } σ2 H2)
theorem q_forL (h : ta σ H (kLst K g t D σ)) : tFor (iSeqA K ta) g t D σ H := .inl h
theorem q_forT (h : ta σ H (kTup K g t D σ)) : tFor (iSeqA K ta) g t D σ H := .inr (.inl h)
theorem q_lst_for {a : Addr} {xs : List V} (hx : SqL K H a xs) (Pv : Nat → L2.St → Hp → Prop) (h0 : Pv 0 σ H) (hl : ∀ i σ' H', i ≤ xs.length → Pv i σ' H' → SqL K H' a xs)
    (hs : ∀ i x σ' H', xs[i]? = some x → Pv i σ' H' → g x σ' H' fun σ2 H2 => t { D with nx := Pv (i + 1), ct := Pv (i + 1), bk := D.nx } σ2 H2) (hd : ∀ σ' H', Pv xs.length σ' H' → D.nx σ' H') : kLst K g t D σ (.ref a) H :=
  ⟨a, rfl, ⟨xs, hx⟩, for_list Pv h0 hl hs hd⟩
theorem q_tup_for {a : Addr} {xs : List V} (hx : SqT K H a xs) (Pv : Nat → L2.St → Hp → Prop) (h0 : Pv 0 σ H) (hl : ∀ i σ' H', i ≤ xs.length → Pv i σ' H' → SqT K H' a xs)
    (hs : ∀ i x σ' H', xs[i]? = some x → Pv i σ' H' → g x σ' H' fun σ2 H2 => t { D with nx := Pv (i + 1), ct := Pv (i + 1), bk := D.nx } σ2 H2) (hd : ∀ σ' H', Pv xs.length σ' H' → D.nx σ' H') : kTup K g t D σ (.ref a) H :=
  ⟨a, rfl, ⟨xs, hx⟩, for_tup Pv h0 hl hs hd⟩
theorem q_name {k : Nat} {v : V} {R : L2.St → Hp → Prop} (h : R (σ.set k (some v)) H) : gName k v σ H R := h
/-! comprehensions -/
def kcLst (K : PySem.W.Frag) (g : TG) (tt : TT) (te : TE) (vs : List Nat) (σ : L2.St) (Q : VK) : V → Hp → Prop := fun x H1 => ∃ a, x = .ref a ∧ (∃ xs, SqL K H1 a xs) ∧ ∀ D, H1 D = none → ∃ W : Nat → Nat → Hp → Prop, (∃ m, W 0 m (upd H1 D (.lst []))) ∧ ∀ i m H, W i m H →
  ((Itl K a).stop i H ∧ Q (.ref D) H) ∨ ((Itl K a).go i H ∧ ∃ Nx : Hp → Prop, (∀ H', Nx H' → ∃ m', m' < m ∧ W (i + 1) m' H') ∧ ∀ x H', (Itl K a).yld i H x H' → g x (wipe σ vs) H' fun σ2 H2 => wipe σ2 vs = wipe σ vs ∧ tt σ2 H2 fun b H3 =>
    if b = true then te σ2 H3 fun y H4 => ∃ acc, H4 D = some (.lst acc) ∧ acc.length < sizeLine ∧ Nx (upd H4 D (.lst (acc ++ [y]))) else Nx H3)
def kcTup (K : PySem.W.Frag) (g : TG) (tt : TT) (te : TE) (vs : List Nat) (σ : L2.St) (Q : VK) : V → Hp → Prop := fun x H1 => ∃ a, x = .ref a ∧ (∃ xs, SqT K H1 a xs) ∧ ∀ D, H1 D = none → ∃ W : Nat → Nat → Hp → Prop, (∃ m, W 0 m (upd H1 D (.lst []))) ∧ ∀ i m H, W i m H →
  ((Itt K a).stop i H ∧ Q (.ref D) H) ∨ ((Itt K a).go i H ∧ ∃ Nx : Hp → Prop, (∀ H', Nx H' → ∃ m', m' < m ∧ W (i + 1) m' H') ∧ ∀ x H', (Itt K a).yld i H x H' → g x (wipe σ vs) H' fun σ2 H2 => wipe σ2 vs = wipe σ vs ∧ tt σ2 H2 fun b H3 =>
    if b = true then te σ2 H3 fun y H4 => ∃ acc, H4 D = some (.lst acc) ∧ acc.length < sizeLine ∧ Nx (upd H4 D (.lst (acc ++ [y]))) else Nx H3)
def kcRng1 (g : TG) (tt : TT) (te : TE) (vs : List Nat) (σ : L2.St) (Q : VK) : List V → Hp → Prop := fun us H1 => ∃ j : Int, us = [.int j] ∧ -(2 ^ 62) ≤ j ∧ j < 2 ^ 62 ∧ ∀ D, H1 D = none → ∃ W : Nat → Nat → Hp → Prop, (∃ m, W 0 m (upd H1 D (.lst []))) ∧ ∀ i m H, W i m H →
  ((Itr 0 j.toNat).stop i H ∧ Q (.ref D) H) ∨ ((Itr 0 j.toNat).go i H ∧ ∃ Nx : Hp → Prop, (∀ H', Nx H' → ∃ m', m' < m ∧ W (i + 1) m' H') ∧ ∀ x H', (Itr 0 j.toNat).yld i H x H' → g x (wipe σ vs) H' fun σ2 H2 => wipe σ2 vs = wipe σ vs ∧ tt σ2 H2 fun b H3 =>
    if b = true then te σ2 H3 fun y H4 => ∃ acc, H4 D = some (.lst acc) ∧ acc.length < sizeLine ∧ Nx (upd H4 D (.lst (acc ++ [y]))) else Nx H3)
variable {tt : TT} {te : TE} {ws : List Nat}
theorem q_lcL (h : ta σ H (kcLst K g tt te ws σ Q)) : tLc (iSeqA K ta) g tt te ws σ H Q := .inl h
theorem q_lcT (h : ta σ H (kcTup K g tt te ws σ Q)) : tLc (iSeqA K ta) g tt te ws σ H Q := .inr (.inl h)
theorem q_lcR1 {ta : TA} (h : ta σ H (kcRng1 g tt te ws σ Q)) : tLc (iRng1 ta) g tt te ws σ H Q := h
theorem q_lst_lc {a : Addr} {xs : List V} (hx : SqL K H a xs) (h : ∀ D, H D = none → ∃ Pv : Nat → Hp → Prop, Pv 0 (upd H D (.lst [])) ∧ (∀ i H', i ≤ xs.length → Pv i H' → SqL K H' a xs) ∧
    (∀ i x H', xs[i]? = some x → Pv i H' → g x (wipe σ ws) H' fun σ2 H2 => wipe σ2 ws = wipe σ ws ∧ tt σ2 H2 fun b H3 => if b = true then te σ2 H3 fun y H4 => ∃ acc, H4 D = some (.lst acc) ∧ acc.length < sizeLine ∧ Pv (i + 1) (upd H4 D (.lst (acc ++ [y]))) else Pv (i + 1) H3) ∧
    ∀ H', Pv xs.length H' → Q (.ref D) H') : kcLst K g tt te ws σ Q (.ref a) H := ⟨a, rfl, ⟨xs, hx⟩, fun D hD => by
  obtain ⟨Pv, h0, hl, hs, hd⟩ := h D hD
  exact lc_list Pv h0 hl hs hd⟩
theorem q_rng_lc (n : Nat) (hn : n ≤ 1000000) (h : ∀ D, H D = none → ∃ Pv : Nat → Hp → Prop, Pv 0 (upd H D (.lst [])) ∧
    (∀ i H', i < n → Pv i H' → g (.int (i : Nat)) (wipe σ ws) H' fun σ2 H2 => wipe σ2 ws = wipe σ ws ∧ tt σ2 H2 fun b H3 => if b = true then te σ2 H3 fun y H4 => ∃ acc, H4 D = some (.lst acc) ∧ acc.length < sizeLine ∧ Pv (i + 1) (upd H4 D (.lst (acc ++ [y]))) else Pv (i + 1) H3) ∧
    ∀ H', Pv n H' → Q (.ref D) H') : kcRng1 g tt te ws σ Q [.int (n : Nat)] H := ⟨n, rfl, by omega, by omega, fun D hD => by
  obtain ⟨Pv, h0, hs, hd⟩ := h D hD
  rw [Int.toNat_natCast]
  refine lc_range (n := n) Pv h0 (fun i H' hi p => ?_) hd
  rw [Int.zero_add]
  exact hs i H' hi p⟩
end
end Cw

set_option maxHeartbeats 4000000
/-! own exception classes over another own one over Exception, whose __init__ keeps its one argument -/
namespace Cw
open PySem PySem.Spec PyProof.Rows L2
abbrev tailE : List Value := [.type "Exception", .type "BaseException", .type "object"]
def eqW (a b : Option (Option Value)) : Bool := decide (a = b)
theorem bA {a b : Bool} (h : (a && b) = true) : a = true ∧ b = true := Bool.and_eq_true_iff.mp h
/-- what the written part says of such a class at C, its __init__ at fI, its field -/
structure XcC (K : PySem.W.Frag) (C fI : Addr) (fld : Str) : Prop where
  kC : PySem.W.keepIn K (.ref C) = true
  ii : PySem.W.excInitIn K C tailE "Exception.__new__" = true
  ov : PySem.W.excOver K C tailE = true
  hd : PySem.W.hasDictIn K C = true
  sa : PySem.W.findIn K (.ref C) "__setattr__" = some (some (.builtin "object.__setattr__"))
  ga : PySem.W.findIn K (.ref C) "__getattribute__" = some (some (.builtin "BaseException.__getattribute__"))
  gg : PySem.W.findIn K (.ref C) "__getattr__" = some none
  no : PySem.W.findIn K (.ref C) fld = some none
  iC : PySem.W.findIn K (.ref C) "__init__" = some (some (.ref fI))
  tI : PySem.W.typeIn K (.ref fI) = some (.type "function")
  exC : PySem.W.subIn K (.ref C) (.type "BaseException") = some true
  tyC : PySem.W.typeIn K (.ref C) = some (.type "type")
  cA : PySem.W.findIn K (.ref C) "__class__" = some (some (.builtin "object.__class__"))
  sp : PySem.W.specialIn K (.builtin "object.__class__") "__get__" = some (some (.builtin "getset_descriptor.__get__"))
  tk : PySem.W.takesIn K (.builtin "object.__class__") = some true
  mo : PySem.W.mroIn K C (.type "object") = some true
def xcB (K : PySem.W.Frag) (C fI : Addr) (fld : Str) : Bool :=
  PySem.W.keepIn K (.ref C) && (PySem.W.excInitIn K C tailE "Exception.__new__" && (PySem.W.excOver K C tailE && (PySem.W.hasDictIn K C && (eqW (PySem.W.findIn K (.ref C) "__setattr__") (some (some (.builtin "object.__setattr__"))) &&
  (eqW (PySem.W.findIn K (.ref C) "__getattribute__") (some (some (.builtin "BaseException.__getattribute__"))) && (eqW (PySem.W.findIn K (.ref C) "__getattr__") (some none) && (eqW (PySem.W.findIn K (.ref C) fld) (some none) && (eqW (PySem.W.findIn K (.ref C) "__init__") (some (some (.ref fI))) &&
  (decide (PySem.W.typeIn K (.ref fI) = some (.type "function")) && (decide (PySem.W.subIn K (.ref C) (.type "BaseException") = some true) && (decide (PySem.W.typeIn K (.ref C) = some (.type "type")) && (eqW (PySem.W.findIn K (.ref C) "__class__") (some (some (.builtin "object.__class__"))) &&
  (eqW (PySem.W.specialIn K (.builtin "object.__class__") "__get__") (some (some (.builtin "getset_descriptor.__get__"))) && (decide (PySem.W.takesIn K (.builtin "object.__class__") = some true) && decide (PySem.W.mroIn K C (.type "object") = some true)))))))))))))))
theorem xcB_ok {K : PySem.W.Frag} {C fI : Addr} {fld : Str} (h : xcB K C fI fld = true) : XcC K C fI fld := by
  obtain ⟨h1, h⟩ := bA h
  obtain ⟨h2, h⟩ := bA h
  obtain ⟨h3, h⟩ := bA h
  obtain ⟨h4, h⟩ := bA h
  obtain ⟨h5, h⟩ := bA h
  obtain ⟨h6, h⟩ := bA h
  obtain ⟨h7, h⟩ := bA h
  obtain ⟨h8, h⟩ := bA h
  obtain ⟨h9, h⟩ := bA h
  obtain ⟨h10, h⟩ := bA h
  obtain ⟨h11, h⟩ := bA h
  obtain ⟨h12, h⟩ := bA h
  obtain ⟨h13, h⟩ := bA h
  obtain ⟨h14, h⟩ := bA h
  obtain ⟨h15, h16⟩ := bA h
  exact ⟨h1, h2, h3, h4, of_decide_eq_true h5, of_decide_eq_true h6, of_decide_eq_true h7, of_decide_eq_true h8, of_decide_eq_true h9, of_decide_eq_true h10, of_decide_eq_true h11, of_decide_eq_true h12, of_decide_eq_true h13, of_decide_eq_true h14, of_decide_eq_true h15, of_decide_eq_true h16⟩
theorem XcC.xf {K : PySem.W.Frag} {C fI : Addr} {fld : Str} (T : XcC K C fI fld) : XfC K C := ⟨T.ga, T.gg, T.exC, T.hd⟩
theorem XcC.cls {K : PySem.W.Frag} {C fI : Addr} {fld : Str} (T : XcC K C fI fld) : (PySem.W.clsIn K C).isSome = true := by
  obtain ⟨cd, h, _⟩ := PySem.W.any_some T.hd
  rw [h] <;> rfl
/-- the text of such an __init__ -/
structure InitS (st : Stmt) (qual fld : Str) : Prop where
  body : ∃ q1 q2 q3 q4, defBody st = [.Assign [.Attribute (.Name "self" q1) fld q2] (.Name fld q3) q4]
  kind : (defScope st).kind = .function
  co : (defScope st).isCoroutine = false
  gen : (defScope st).isGenerator = false
  ks : ∀ L f cd, (envOfC qual (defScope st) L f cd).kindOf "self" = some .local
  kf : ∀ L f cd, (envOfC qual (defScope st) L f cd).kindOf fld = some .local
  nm : ∀ x v : Value, (([("self", x), (fld, v)] : List (Str × Value)).all fun y => (defScope st).names.lookup y.1 == some .local || (defScope st).names.lookup y.1 == some .cell) = true
  bl : ∀ L f cd (x v : Value), bindL (envOfC qual (defScope st) L f cd).kindOf ([("self", x), (fld, v)] : List (Str × Value)) (fun _ => none) "self" = some x ∧ bindL (envOfC qual (defScope st) L f cd).kindOf ([("self", x), (fld, v)] : List (Str × Value)) (fun _ => none) fld = some v
  bind : ∀ (kV doc pm : Value) (an : Option Addr) (cdv ct : Value) (x v : Value), bindArgs (PySem.W.fnOf "__init__" qual (defArgs st) (defBody st) (defScope st) .none kV doc pm an cdv ct) ⟨[x, v], []⟩ = pure ([("self", x), (fld, v)] : List (Str × Value))
  db : (fld == ("__debug__" : Str)) = false
namespace Xc
open PySem.W PySem.Calls PySem.HandSPX
theorem one_size (v : Value) : [v].length ≤ sizeLine := by
  rw [sizeLine_eq]
  exact (by decide : 1 ≤ 16777216)
theorem ldC {M : Model} {s : Shared} {name : Str} {scope : Scope} {L a : Addr} {cd : Value} {m : Str → Option Value} {x : Str} {pos : Pos} {v : Value} {Q : Value → Shared → Prop} {A : Around} {E : Value → Shared → Prop} (hn : s.heap.Ns L m) (hv : m x = some v) (h : Q v s)
    (hk : scope.kind = .function) (hl : (envOfC name scope L a cd).kindOf x = some .local) (hd : (x == ("__debug__" : Str)) = false) :
    wpAny M A (eval (.Name x pos) (envOfC name scope L a cd)) Q E s := wpAny_Name (wpAny_loadName_local hk hl hn hv h) hd
/-- what a store into a fresh exception at x leaves -/
structure InitEnd (h h' : Heap) (x C dx t1 : Addr) (fld : Str) (v : Value) : Prop where
  keep : ∀ b o, b ≠ x → h.get? b = some o → h'.get? b = some o
  obj : h'.get? x = some { cls := .ref C, dict := some dx, data := .fields #[.ref t1, .none, .none, .none, .bool false, .none] }
  dbig : h.objs.size ≤ dx
  dne : dx ≠ x
  ns : h'.Ns1 dx (fun y => if y = fld then some v else none)
/-- a made one -/
structure OwnMade (h h' : Heap) (e C d : Addr) (fld : Str) (v : Value) : Prop where
  keep : ∀ b o, h.get? b = some o → h'.get? b = some o
  new : h.objs.size ≤ e
  obj : ∃ t1 : Addr, h'.get? e = some { cls := .ref C, dict := some d, data := .fields #[.ref t1, .none, .none, .none, .bool false, .none] }
  dbig : h.objs.size ≤ d
  dne : d ≠ e
  ns : h'.Ns1 d (fun y => if y = fld then some v else none)
section
variable {prog : Program} {w : World} {A : Around} {E : Value → Shared → Prop} {R : Result → Shared → Prop} {hp : Heap} {g : Array GenState} {d : Drawn} {t : Nat} {os : OsState} {K : Frag} {C fI : Addr} {fld qual : Str} {st : Stmt} {fd : FuncData}
open Builtin Builtin.ObjectAttr in
theorem osa {tk : Tok} {v : Value} {x : Addr} {fv : Array Value} (T : XcC K C fI fld) (X : K.In hp) (hx : hp.get? x = some { cls := .ref C, data := .fields fv })
    (hq : ∀ h' tk' dx, (∀ b o, b ≠ x → hp.get? b = some o → h'.get? b = some o) → hp.objs.size ≤ dx → dx ≠ x → h'.get? x = some { cls := .ref C, dict := some dx, data := .fields fv } →
      h'.Ns1 dx (fun y => if y = fld then some v else none) → R (.ok (.ret .none)) ⟨h', g, d, tk', os⟩) :
    codeAny (model prog w) A (.call (.builtin "object.__setattr__") ⟨[.ref x, .str fld tk, v], []⟩) R ⟨hp, g, d, t, os⟩ := by
  have hxs : x ≠ hp.objs.size := Nat.ne_of_lt (Heap.lt_size hx)
  refine osa_openX (s := ⟨hp, g, d, t, os⟩) (od := none) (r := none) PySem.F.store_Exception X ⟨hx, rfl, rfl, trivial⟩ T.ov (by unfold takerIn; rw [T.no] <;> rfl) fun b => ?_
  show wpAny _ _ (storeInOwnDict (.ref x) (.ref C) (.str fld tk) fld v b) _ _ _
  obtain ⟨cd, hc, hd'⟩ := any_some T.hd
  have hcls : W.Looks (model prog w) hp (classData C) cd := W.looks_clsIn X hc
  obtain ⟨nm, bs, mro, ns, qn, hd, sn, sb, ab, col, del⟩ := cd
  dsimp only at hd'
  subst hd'
  unfold storeInOwnDict ownDictForStores
  repeat (first | with_reducible refine store_in_new ?_ ?_ | with_reducible refine wpAny_loadPart_at hx ?_ | with_reducible refine hcls.at ?_ | wp_step)
  · exact ⟨_, #[], _, (Heap.get?_update_ne _ _ _ _ hxs.symm).trans (Heap.get?_push_at rfl rfl), rfl, fun e he => absurd he (by simp), fun _ => rfl⟩
  · intro h' tk' hn' hs
    have hx₁ : (hp.push { cls := .type "dict", data := .dict #[] }).get? x = some { cls := .ref C, data := .fields fv } := Heap.get?_push_of_some _ hx
    refine hq h' tk' hp.objs.size (fun b o hb ho => ?_) (Nat.le_refl _) hxs.symm ?_ hn'
    · exact (hs.2 b (Nat.ne_of_lt (Heap.lt_size ho))).trans ((Heap.get?_update_ne _ _ _ _ hb).trans (Heap.get?_push_of_some _ ho))
    · exact (hs.2 x hxs).trans (Heap.get?_update_self _ hx₁ rfl)
theorem init {s : Shared} (T : XcC K C fI fld) (S : InitS st qual fld) (F : FunD K "__init__" qual (defArgs st) (defBody st) (defScope st) [] [] fI fd) {x t0 : Addr} {v : Value} (X : K.In s.heap) (hlim : s.heap.NoLimit) (hx : s.heap.get? x = some (excO C t0)) (hroom : A.depth < recursionLimit)
    (hq : ∀ h' tk dx, InitEnd s.heap h' x C dx t0 fld v → R (.ok (.ret .none)) { s with heap := h', toks := tk }) :
    codeAny (model prog w) A (.call (.ref fI) ⟨[.ref x, v], []⟩) R s := by
  obtain ⟨oc, od, dV, kV, doc, pm, an, cdv, ct, osl, rfl, ho, hcd, hdd, _⟩ := F.ex
  rcases hdd with ⟨_, rfl⟩ | ⟨z, _⟩
  case inr => exact absurd rfl z
  refine Att.call_fn (binds := [("self", .ref x), (fld, v)]) X hlim ho hcd hroom (BindsTo.of_eq (S.bind _ _ _ _ _ _ _ _)) (S.nm _ _) (fun s₁ IC => ?_) S.co S.gen S.kind
  obtain ⟨h₁, tk₁, rfl⟩ := IC.toInCall.same
  have k : ∀ b o, s.heap.get? b = some o → h₁.get? b = some o := IC.toInCall.keep
  have hn := IC.toInCall.ns
  have hxL : s.heap.objs.size ≠ x := Nat.ne_of_gt (Heap.lt_size hx)
  have X₁ : K.In h₁ := X.keeps k
  have hx₁ := k _ _ hx
  obtain ⟨q1, q2, q3, q4, eb⟩ := S.body
  rw [eb]
  obtain ⟨b1, b2⟩ := S.bl s.heap.objs.size fI cdv (.ref x) v
  refine wpAny_execs_cons (plainObj_wpAny_Assign_Attribute ?_)
  refine ldC (v := v) hn b2 (ldC (v := .ref x) hn b1 ?_ S.kind (S.ks _ _ _) (by decide)) S.kind (S.kf _ _ _) S.db
  refine set_plain X₁ (ox := excO C t0) (od := none) ⟨hx₁, rfl, rfl, trivial⟩ T.sa ?_
  refine osa T X₁ hx₁ (fun h₃ tk₃ dx k₃ dn dne hx₃ hn₃ => ?_)
  have z : s.heap.objs.size < h₁.objs.size := hn.lt
  exact wpAny_execs_nil (hq h₃ tk₃ dx ⟨fun b o hb e => k₃ b o hb (k b o e), hx₃, Nat.le_of_lt (Nat.lt_of_lt_of_le z dn), dne, hn₃⟩)
theorem made {s : Shared} (T : XcC K C fI fld) (S : InitS st qual fld) (F : FunD K "__init__" qual (defArgs st) (defBody st) (defScope st) [] [] fI fd) {v : Value} (X : K.In s.heap) (hlim : s.heap.NoLimit) (hroom : A.depth + 1 < recursionLimit)
    (hq : ∀ h' tk e d, OwnMade s.heap h' e C d fld v → R (.ok (.ret (.ref e))) { s with heap := h', toks := tk }) :
    codeAny (model prog w) A (.call (.ref C) ⟨[v], []⟩) R s := by
  obtain ⟨nm, N', qn, bs, bm, hdct, sn, sub, ab, col, dd, k0, k1, k2, k3, k5, hC, hT⟩ := excInit_of X T.ii
  obtain ⟨hp, g, dr, tk, os⟩ := s
  have k : ∀ b o, hp.get? b = some o → ((hp.push (kdv_tup [v])).push (excO C hp.objs.size)).get? b = some o := fun b o e => Heap.get?_push_of_some _ (Heap.get?_push_of_some _ e)
  have hget : ((hp.push (kdv_tup [v])).push (excO C hp.objs.size)).get? (hp.objs.size + 1) = some (excO C hp.objs.size) := by heap_get
  refine HandSPX.call_own PySem.F.excBase_Exception hT hC (looks_findIn X T.iC) (fun self => bind_fn X self T.tI) (one_size v) ?_
  refine init (s := ⟨(hp.push (kdv_tup [v])).push (excO C hp.objs.size), g, dr, tk, os⟩) T S F (X.keeps k) (hlim.keeps k) hget ?_ fun h' tk' dx ⟨k', hx, dn, dne, hns⟩ => ?_
  · show A.depth + 1 < recursionLimit
    exact hroom
  · have old : ∀ b o, hp.get? b = some o → h'.get? b = some o := fun b o e => k' b o (Nat.ne_of_lt (Nat.lt_succ_of_lt (Heap.lt_size e))) (k b o e)
    have z : hp.objs.size + 1 + 1 ≤ dx := by
      first
        | (simpa only [Heap.size_push] using dn)
        | exact dn
        | (have q := dn; rw [Heap.size_push, Heap.size_push] at q; exact q)
    exact ⟨rfl, hq h' tk' (hp.objs.size + 1) dx ⟨old, Nat.le_succ _, ⟨_, hx⟩, Nat.le_trans (Nat.le_trans (Nat.le_succ _) (Nat.le_succ _)) z, dne, hns⟩⟩
end
end Xc
theorem relO_one {v : V} {v' : Value} {fld : Str} (r : RelV v v') (f : Str) : RelO (List.lookup f [(fld, v)]) (if f = fld then some v' else none) := by
  by_cases hw : f = fld
  · subst hw
    rw [if_pos rfl]
    have q : List.lookup f [(f, v)] = some v := by simp [List.lookup]
    rw [q]
    exact r
  · rw [if_neg hw]
    have qw : (f == fld) = false := by simpa using hw
    have q2 : List.lookup f [(fld, v)] = none := by simp [List.lookup, qw]
    rw [q2]
    trivial
/-! ### one more name for a class: how it stands in the module -/
/-- a class by its name, with its __init__ -/
def Xn (K : PySem.W.Frag) (mg : Str → Option Value) (x fld : Str) (C : Addr) : Prop :=
  mg x = some (.ref C) ∧ ∃ (fI : Addr) (st : Stmt) (qual : Str) (fd : FuncData), XcC K C fI fld ∧ InitS st qual fld ∧ FunD K "__init__" qual (defArgs st) (defBody st) (defScope st) [] [] fI fd
/-- an exception object of the class at C, with its dict at d, not raised -/
def ExH (C d a : Addr) : HO := .ext fun h => ∃ t1 : Addr, h.get? a = some { cls := .ref C, dict := some d, data := .fields #[.ref t1, .none, .none, .none, .bool false, .none] }
section
variable {X : Cx} {C : Addr} {x fld : Str}
/-- C(e), about to be raised -/
def tMkX (C : Addr) (fld : Str) (ta : TA) : L2.St → Hp → XK → Prop := fun σ H Q => ta σ H fun vs H1 => ∃ v, vs = [v] ∧ ∀ d, H1 d = none → Q (.ref C) (some d) (upd H1 d (.xd [(fld, v)]))
theorem pmk_x {a : Expr} {ta : TA} {p pos : Pos} {k : Nat} (T : Xn X.K X.mg x fld C) (hr : Room k X.A) (ha : PA X [a] ta) (hg : Gl X x) (hdb : (x == ("__debug__" : Str)) = false := by decide)
    (he : starEach (a :: []) X.env = (false, eval a X.env) :: starEach [] X.env := by rfl) (hpl : (backTo pos (starEach [] X.env)).any (·.1) = false := by rfl) :
    PMk X (.Call (.Name x p) [a] [] pos) (tMkX C fld ta) := by
  obtain ⟨gC, fI, st, qual, fd, T, S, F⟩ := T
  intro pins s σ H Q I h
  refine wpAny_Call_Name_kw (ld_glob I hg gC ?_ hdb)
  refine PySem.W.callWith_K (h₀ := X.base) I.ok.mod.kin T.kC (thn (ha.run pos pins s σ H _ I h) fun us s1 hh => ?_) he hpl
  obtain ⟨vs, H1, I1, r1, v, ev, q1⟩ := hh
  subst ev
  refine ⟨I1.kIn, ?_⟩
  cases r1 with
  | cons rv rn =>
    rename_i v' us'
    cases rn
    show wpAny _ _ (call (.ref C) [v']) _ _ _
    have hlim := I1.nolimit
    obtain ⟨hp, g, dr, tk, os⟩ := s1
    refine wpAny_call (Xc.made T S F I1.kIn hlim (by have := hr.dp; omega) fun h' tk' e d M => ?_)
    show MkP X pins σ Q (.ref e) ⟨h', g, dr, tk', os⟩
    obtain ⟨t1, hoe⟩ := M.obj
    have hns := M.ns
    obtain ⟨G', g1, g2⟩ := restrict h' fun b => decide (b ≠ e)
    have gk : ∀ b, b ≠ e → G'.get? b = h'.get? b := fun b hb => g1 b (decide_eq_true hb)
    have ge : G'.get? e = none := g2 e (by simp)
    have old : ∀ b o, hp.get? b = some o → G'.get? b = some o := fun b o q => (gk b (Nat.ne_of_lt (Nat.lt_of_lt_of_le (Heap.lt_size q) M.new))).trans (M.keep b o q)
    have ob : ObjOk X.prog X.w (upd H1 d (.xd [(fld, v)])) G' d (.xd [(fld, v)]) :=
      ⟨_, hns.at (fun o q => (gk d M.dne).trans q), fun f => relO_one rv f⟩
    have J : Inv X pins σ (upd H1 d (.xd [(fld, v)])) ⟨G', g, dr, tk', os⟩ := I1.laid (t' := tk') old M.dbig ob
    refine ⟨e, _, _, ⟨G', g, dr, tk', os⟩, _, .ref C, some d, rfl, J, fun b o q => ?_, ge, hoe, ⟨rfl, rfl⟩, rfl, rfl, ?_, rfl, I1.bare, raises_own T.exC T.tyC, q1 d (I1.hok.fresh M.dbig)⟩
    · by_cases hb : b = e
      · have q' : G'.get? b = some o := q
        rw [hb, ge] at q'; cases q'
      · exact (gk b hb).symm.trans q
    · rw [upd_ne (Ne.symm M.dne)]
      exact I1.hok.fresh M.new
/-- raise C(e) -/
def tRaiseX (C : Addr) (fld : Str) (W : WX) (ta : TA) : TS := fun _ σ H => tMkX C fld ta σ H fun cls d H' => W cls d σ H'
theorem ps_raiseX {a : Expr} {ta : TA} {W : WX} {p pos pos2 : Pos} {k : Nat} (hc : X.calm = true) (T : Xn X.K X.mg x fld C) (hr : Room k X.A) (tk : Takes X W) (ha : PA X [a] ta) (hg : Gl X x) (hdb : (x == ("__debug__" : Str)) = false := by decide)
    (he : starEach (a :: []) X.env = (false, eval a X.env) :: starEach [] X.env := by rfl) (hpl : (backTo pos (starEach [] X.env)).any (·.1) = false := by rfl) :
    PS X (.Raise (some (.Call (.Name x p) [a] [] pos)) none pos2) (tRaiseX C fld W ta) := ps_raise hc tk (pmk_x T hr ha hg hdb he hpl)
/-- C(e), a value -/
def tNewX (C : Addr) (fld : Str) (ta : TA) : TE := fun σ H Q => ta σ H fun vs H1 => ∃ v, vs = [v] ∧ ∀ d e, H1 d = none → H1 e = none → e ≠ d → Q (.ref e) (upd (upd H1 d (.xd [(fld, v)])) e (ExH C d e))
theorem pe_newX {a : Expr} {ta : TA} {p pos : Pos} {k : Nat} (T : Xn X.K X.mg x fld C) (hr : Room k X.A) (ha : PA X [a] ta) (hg : Gl X x) (hdb : (x == ("__debug__" : Str)) = false := by decide)
    (he : starEach (a :: []) X.env = (false, eval a X.env) :: starEach [] X.env := by rfl) (hpl : (backTo pos (starEach [] X.env)).any (·.1) = false := by rfl) :
    PE X (.Call (.Name x p) [a] [] pos) (tNewX C fld ta) := by
  obtain ⟨gC, fI, st, qual, fd, T, S, F⟩ := T
  refine ⟨fun pins s σ H Q I h => ?_⟩
  refine wpAny_Call_Name_kw (ld_glob I hg gC ?_ hdb)
  refine PySem.W.callWith_K (h₀ := X.base) I.ok.mod.kin T.kC (thn (ha.run pos pins s σ H _ I h) fun us s1 hh => ?_) he hpl
  obtain ⟨vs, H1, I1, r1, v, ev, q1⟩ := hh
  subst ev
  refine ⟨I1.kIn, ?_⟩
  cases r1 with
  | cons rv rn =>
    rename_i v' us'
    cases rn
    show wpAny _ _ (call (.ref C) [v']) _ _ _
    have hlim := I1.nolimit
    obtain ⟨hp, g, dr, tk, os⟩ := s1
    refine wpAny_call (Xc.made T S F I1.kIn hlim (by have := hr.dp; omega) fun h' tk' e d M => ?_)
    obtain ⟨t1, hoe⟩ := M.obj
    have hns := M.ns
    obtain ⟨G', g1, g2⟩ := restrict h' fun b => decide (b ≠ e)
    have gk : ∀ b, b ≠ e → G'.get? b = h'.get? b := fun b hb => g1 b (decide_eq_true hb)
    have ge : G'.get? e = none := g2 e (by simp)
    have old : ∀ b o, hp.get? b = some o → G'.get? b = some o := fun b o q => (gk b (Nat.ne_of_lt (Nat.lt_of_lt_of_le (Heap.lt_size q) M.new))).trans (M.keep b o q)
    have ob : ObjOk X.prog X.w (upd H1 d (.xd [(fld, v)])) G' d (.xd [(fld, v)]) :=
      ⟨_, hns.at (fun o q => (gk d M.dne).trans q), fun f => relO_one rv f⟩
    have J : Inv X pins σ (upd H1 d (.xd [(fld, v)])) ⟨G', g, dr, tk', os⟩ := I1.laid (t' := tk') old M.dbig ob
    have hne : e ≠ d := Ne.symm M.dne
    have h1e : H1 e = none := I1.hok.fresh M.new
    have ke : ∀ b o, G'.get? b = some o → h'.get? b = some o := fun b o q => by
      by_cases hb : b = e
      · rw [hb, ge] at q
        cases q
      · exact (gk b hb).symm.trans q
    exact ⟨.ref e, _, J.laidN (h' := h') (a := e) (o := ExH C d e) (t' := tk') ke ge (by rw [upd_ne hne]; exact h1e) ⟨⟨t1, hoe⟩, ⟨_, hoe⟩, fun h1 h2 ⟨t, q⟩ kk => ⟨t, kk _ q⟩⟩, rfl, q1 d e (I1.hok.fresh M.dbig) h1e hne⟩
/-- e.f of one not raised -/
def rXat (K : PySem.W.Frag) (f : Str) : V → Hp → VK → Prop := fun x H1 Q => ∃ a C d fs v, x = .ref a ∧ H1 a = some (ExH C d a) ∧ XfC K C ∧ PySem.W.findIn K (.ref C) f = some none ∧ H1 d = some (.xd fs) ∧ fs.lookup f = some v ∧ Q v H1
def tXat (K : PySem.W.Frag) (f : Str) (te : TE) : TE := fun σ H Q => te σ H fun x H1 => rXat K f x H1 Q
theorem pe_xat {e : Expr} {te : TE} {pos : Pos} {n : Str} (he : PE X e te) (hb : attributeBase e n X.env (eval e X.env) = eval e X.env := by rfl) : PE X (.Attribute e n pos) (tXat X.K n te) := by
  refine ⟨fun pins s σ H Q I h => ?_⟩
  refine attr_of hb (thn (he.run pins s σ H _ I h) fun u s1 hh => ?_)
  obtain ⟨x, H1, I1, rx, a, C, d, fs, v, rfl, ea, T, hno, ed, l, q⟩ := hh
  obtain rfl : u = Value.ref a := rx
  obtain ⟨⟨t1, ha⟩, _, _⟩ := (show ObjOk X.prog X.w H1 s1.heap a (ExH C d a) from I1.hok a _ ea)
  have hx : ObjOk X.prog X.w H1 s1.heap d (.xd fs) := I1.hok d _ ed
  obtain ⟨mA, hns, hr⟩ := hx
  obtain ⟨od, ho, hl⟩ := lookIn_ns hns
  obtain ⟨u, hu, ru⟩ := RelO.some_of (v := v) (o := mA n) (by rw [← l]; exact hr n)
  have J : PySem.W.InstAt s1.heap a _ C (some od) := ⟨ha, rfl, rfl, ho⟩
  exact HandSPX.exc_get I1.kIn J T.ga T.gg T.exC (PySem.W.findObj_own T.hdC hno rfl (by rw [hl, hu])) (handed_of ru) ⟨v, H1, I1.tok _, ru, q⟩
/-- isinstance(e, c) of one not raised -/
def rIsX (K : PySem.W.Frag) : List V → Hp → VK → Prop := fun xs H Q => ∃ (a C d fI : Addr) (fld : Str) (fs : List (Str × V)) (c : V) (u : Value) (b : Bool), xs = [.ref a, c] ∧ H a = some (ExH C d a) ∧ H d = some (.xd fs) ∧ XcC K C fI fld ∧ ClsV c u ∧ PySem.W.kitOne K (.ref C) u = some b ∧ Q (.bl b) H
theorem call_isX : CallR X (.builtin "isinstance") (rIsX X.K) := by
  intro pins s σ H xs us Q I r h
  obtain ⟨a, C, d, fI, fld, fs, c, u, b, rfl, ea, ed, T, k, e, q⟩ := h
  obtain ⟨u1, u2, rfl, r1, r2⟩ := vals2 r
  cases (show u1 = Value.ref a from r1)
  have e2 := k.eq r2
  subst e2
  obtain ⟨⟨t1, ha⟩, _, _⟩ := (show ObjOk X.prog X.w H s.heap a (ExH C d a) from I.hok a _ ea)
  obtain ⟨mA, hns, hr⟩ := (show ObjOk X.prog X.w H s.heap d (.xd fs) from I.hok d _ ed)
  obtain ⟨od, ho, hl⟩ := lookIn_ns hns
  have J : PySem.W.InstAt s.heap a _ C (some od) := ⟨ha, rfl, rfl, ho⟩
  exact PySem.W.kia_one (PySem.W.kitx_exc (gt := none) T.cls T.ga T.gg T.exC T.cA T.sp T.tk T.mo) I.kIn J e (fun z => nomatch z) fun tk => ⟨.bl b, H, I.tok tk, rfl, q⟩
end
end Cw

set_option maxHeartbeats 4000000
/-! try with many clauses, some of which name what they caught -/
namespace Cw
open PySem PySem.Spec PyProof.Rows L2
abbrev Suite := Addr → Value → Option Addr → TS
/-- a suite that names what was caught in slot i -/
def asS (i : Nat) (ts : Suite) : Suite := fun a cls d D σ H => ts a cls d { nx := fun z G => D.nx (z.set i none) G, rt := D.rt, bk := fun z G => D.bk (z.set i none) G, ct := fun z G => D.ct (z.set i none) G } (σ.set i (some (.ref a))) H
/-- the rule of a suite: whatever object stands behind a -/
def SuOk (X : Cx) (suite : List Stmt) (ts : Suite) : Prop := ∀ (a : Addr) (oe : Obj) (cls : Value) (d : Option Addr) (pn : List (Addr × Obj)), Zc cls d oe → (∃ vs, oe.data = .fields vs) → PSs (X.suite a ((a, oe) :: pn)) suite (ts a cls d)
inductive HdsA (X : Cx) : List ExceptHandler → List (Value × Suite) → Prop
  | nil : HdsA X [] []
  | bare {x : Str} {c : Value} {ts : Suite} {b : Stmt} {suite : List Stmt} {p q : Pos} {hds : List ExceptHandler} {l : List (Value × Suite)} (hc : Names X x c) (su : SuOk X (b :: suite) ts) (r : HdsA X hds l) :
      HdsA X (.ExceptHandler (some (.Name x p)) none (b :: suite) q :: hds) ((c, ts) :: l)
  | as_ {x n : Str} {i : Nat} {c : Value} {ts : Suite} {b : Stmt} {suite : List Stmt} {p q : Pos} {hds : List ExceptHandler} {l : List (Value × Suite)} (hc : Names X x c) (hN : X.N.Nodup) (hi : X.N[i]? = some n) (hl : X.env.kindOf n = some .local) (su : SuOk X (b :: suite) ts) (r : HdsA X hds l) :
      HdsA X (.ExceptHandler (some (.Name x p)) (some n) (b :: suite) q :: hds) ((c, asS i ts) :: l)
section
variable {X : Cx} {pins : List (Addr × Obj)} {D : Ends} {Wout : WX} {a B : Addr}
/-- what stands when an exception has landed: the exception's object at a, the state without it -/
structure Landed (X : Cx) (pins : List (Addr × Obj)) (G : Heap) (a : Addr) (cls : Value) (d : Option Addr) (σ : L2.St) (H : Hp) (sI s' : Shared) (h : Heap) : Prop where
  inv : Inv X pins σ H sI
  nb : ∀ b o, sI.heap.get? b = some o → b ∉ frs X.stack → G.get? b = some o
  up : sI.heap.UpToSlots h
  fl : HandSPX.FlyingZ G (X.env :: X.outer) a (Zc cls d) h
  na : H a = none
  os : s'.os = sI.os
  ag : AllBare s'.gens
section
variable {G h : Heap} {cls : Value} {d : Option Addr} {σ : L2.St} {H : Hp} {sI s' : Shared}
theorem Landed.J (L : Landed X pins G a cls d σ H sI s' h) : Inv X pins σ H { s' with heap := h } := L.inv.landed L.nb L.fl.1 L.up L.os L.ag
theorem Landed.suite (L : Landed X pins G a cls d σ H sI s' h) (hf : X.env.frame = some X.env.locals) : ∃ oe vs, h.get? a = some oe ∧ Zc cls d oe ∧ oe.data = .fields vs ∧ Inv (X.suite a ((a, oe) :: (X.pn ++ pins))) [] σ H { s' with heap := h } := by
  obtain ⟨oe, vs, e, z, dt⟩ := L.fl.there
  have out : a ∉ frs (X.env :: X.outer) := fun m => by
    obtain ⟨_, o, q, nf⟩ := L.fl.2.2.1.mem m
    cases e.symm.trans q
    exact nf _ dt
  refine ⟨oe, vs, e, z, dt, L.J.suite e dt L.na (fun y => out (List.mem_filterMap.mpr ⟨X.env, List.mem_cons_self, by rw [hf, y]⟩)) fun m => ?_⟩
  obtain ⟨v, hv, q⟩ := List.mem_filterMap.mp m
  exact out (List.mem_filterMap.mpr ⟨v, List.mem_cons_of_mem _ hv, q⟩)
/-- the flight is set to none once more -/
theorem Landed.again {M : Model} {A : Around} {E : Value → Shared → Prop} {Q : Unit → Shared → Prop} (L : Landed X pins G a cls d σ H sI s' h) (k : ∀ h2, Landed X pins G a cls d σ H sI s' h2 → Q () { s' with heap := h2 }) :
    wpAny M A (setFlight (.ref a) none) Q E { s' with heap := h } := HandSPX.lands_againZ L.fl fun h2 f u => k h2 ⟨L.inv, L.nb, L.up.trans u, f, L.na, L.os, L.ag⟩
/-- no clause is left: it flies on -/
theorem Landed.on (L : Landed X pins G a cls d σ H sI s' h) (hs : X.stack = X.env :: X.outer) (hf : X.env.frame = some X.env.locals) (tk : Takes X Wout) (w : Wout cls d σ H) :
    wpAny (model X.prog X.w) X.A (handleBy (.ref a) X.env []) (SP X pins D) X.xe { s' with heap := h } := by
  refine wpAny_handleBy_nil ?_
  obtain ⟨_, _, _, oe, vs, T, _, _, he, _, hd, h1, _⟩ := id L.fl
  have fin : wpAny (model X.prog X.w) X.A (setFlight (.ref a) X.env.frame) (fun _ z => wpAny (model X.prog X.w) X.A (throw (.ref a) : Sem Flow) (SP X pins D) X.xe z) X.xe { s' with heap := h } := by
    rw [hf]
    refine HandSPX.setFlight_upZ L.fl fun h2 hh u => wpAny_throw (tk _ _ ⟨a, G, sI, pins, σ, H, cls, d, rfl, L.inv, L.nb, L.up.trans u, .inr (.inr ?_), L.na, L.os, L.ag, w⟩)
    rw [hs]
    exact hh
  unfold PySem.passOn
  refine wpAny_bind (wpAny_field he hd h1 ?_)
  rw [if_neg (by simp)]
  first
    | exact wpAny_bind (wpAny_pure (wpAny_bind fin))
    | exact wpAny_bind fin
/-- a clause's class is read and held against the exception's -/
theorem Landed.test {x : Str} {c : Value} {p : Pos} {b : Bool} {R : Bool → Shared → Prop} {E : Value → Shared → Prop} (L : Landed X pins G a cls d σ H sI s' h) (hf : X.env.frame = some X.env.locals) (hc : Names X x c) (hb : PySem.W.exmOne X.K cls c = some b) (q : R b { s' with heap := h }) :
    wpAny (model X.prog X.w) (X.A.mark (some (.ref a))) (eval (.Name x p) X.env) (fun u z => wpAny (model X.prog X.w) (X.A.mark (some (.ref a))) (excMatches (.ref a) u) R E z) E { s' with heap := h } := by
  obtain ⟨oe, vs, e, z, dt, S⟩ := L.suite hf
  have m : wpAny (model X.prog X.w) (X.A.mark (some (.ref a))) (excMatches (.ref a) c) R E { s' with heap := h } :=
    (PySem.W.exm_one (M := model X.prog X.w) L.J.kIn (fun A Q E s k q => wpAny_typeOf_ref (k _ _ e) (by rw [z.1]; exact q)) hb).here q
  obtain ⟨hg, hdb, hm | ⟨hm, hv, hn⟩⟩ := hc
  · exact ld_glob (X := X.suite a ((a, oe) :: (X.pn ++ pins))) S hg hm m hdb
  · exact ld_blt (X := X.suite a ((a, oe) :: (X.pn ++ pins))) S hg hm hv m hn hdb
/-- the clauses, one behind another -/
theorem Landed.run {hds : List ExceptHandler} {l : List (Value × Suite)} (hh : HdsA X hds l) (L : Landed X pins G a cls d σ H sI s' h) (hs : X.stack = X.env :: X.outer) (hf : X.env.frame = some X.env.locals) (tk : Takes X Wout) (w : wMany X.K Wout D l cls d σ H) :
    wpAny (model X.prog X.w) X.A (handleBy (.ref a) X.env hds) (SP X pins D) X.xe { s' with heap := h } := by
  induction hh with
  | nil => exact L.on hs hf tk w
  | bare hc su r ih =>
    obtain ⟨b, hb, yes, no⟩ := w
    refine wpAny_handleBy_cons (codeAny_handlers_test ?_) (by nofun)
    refine L.test hf hc hb ?_
    cases b with
    | false => exact ih (no rfl)
    | true =>
      refine codeAny_handlers_suite (L.again fun h2 L2 => ?_)
      obtain ⟨oe, vs, e, z, dt, S⟩ := L2.suite hf
      refine wpAny_mono ((su a oe cls d (X.pn ++ pins) z ⟨_, dt⟩).run [] _ _ H _ S (yes rfl a L.na)) (fun f s6 hq => ?_) (fun _ _ z => False.elim z)
      cases f with
      | ret u =>
        obtain ⟨v, σ6, H6, S6, r6, q6⟩ := hq
        exact ⟨v, σ6, H6, S6.unsuite L.inv.ok, r6, q6⟩
      | next | brk | cont =>
        obtain ⟨σ6, H6, S6, q6⟩ := hq
        exact ⟨σ6, H6, S6.unsuite L.inv.ok, q6⟩
  | @as_ x n i c ts b₀ suite p q hds l hc hN hi hl su r ih =>
    obtain ⟨b, hb, yes, no⟩ := w
    refine wpAny_handleBy_cons (codeAny_handlers_test ?_) (by nofun)
    refine L.test hf hc hb ?_
    cases b with
    | false => exact ih (no rfl)
    | true =>
      refine codeAny_handlers_suite_as (L.again fun h2 L2 => ?_)
      obtain ⟨oe, vs, e, z, dt, S⟩ := L2.suite hf
      refine store_ok (X := X.suite a ((a, oe) :: (X.pn ++ pins))) (v := .ref a) S hN hi (.inl hl) rfl (fun s5 S5 => ?_) (.inr hl)
      refine wpAny_mono ((su a oe cls d (X.pn ++ pins) z ⟨_, dt⟩).run [] s5 _ H _ S5 (yes rfl a L.na)) (fun f s6 hq => ?_) (fun _ _ z => False.elim z)
      cases f with
      | ret u =>
        obtain ⟨v, σ6, H6, S6, r6, q6⟩ := hq
        exact gone_ok (S6.unsuite L.inv.ok) hN hi hl fun s7 J7 => ⟨v, _, H6, J7, r6, q6⟩
      | next | brk | cont =>
        obtain ⟨σ6, H6, S6, q6⟩ := hq
        exact gone_ok (S6.unsuite L.inv.ok) hN hi hl fun s7 J7 => ⟨_, H6, J7, q6⟩
end
theorem ps_tryA {body : List Stmt} {h₀ : ExceptHandler} {hds : List ExceptHandler} {l : List (Value × Suite)} {pos : Pos} {tb : WX → TS} (hs : X.stack = X.env :: X.outer) (hf : X.env.frame = some X.env.locals) (tk : Takes X Wout)
    (hb : ∀ (W : WX) (pn : List (Addr × Obj)) (xe : Value → Shared → Prop), Takes (X.tr pn xe) W → PassesOwn (model X.prog X.w) X.A X.env xe → PSs (X.tr pn xe) body (tb W)) (hh : HdsA X (h₀ :: hds) l) :
    PS X (.Try body (h₀ :: hds) [] [] pos) (fun D σ H => tb (wMany X.K Wout D l) D σ H) := by
  refine ⟨fun pins s σ H D I h => ?_⟩
  have ok := I.ok
  refine wpAny_Try_except (wpAny_mono ((hb (wMany X.K Wout D l) (X.pn ++ pins) (fun e s₁ => wpAny (model X.prog X.w) X.A (noteFrame e X.env) (fun _ s₂ => wpAny (model X.prog X.w) X.A (setFlight e none) (fun _ s₃ =>
    wpAny (model X.prog X.w) X.A (handleBy e X.env (h₀ :: hds)) (SP X pins D) X.xe s₃) X.xe s₂) X.xe s₁) (fun u s' xx => ?_) PassesOwn.looking).run [] s σ H D (I.toTry _) h) (fun f s1 hq => ?_) (fun e s1 he => he))
  · obtain ⟨a, G, sI, pins', σ', H', cls, d, rfl, J', nb, up, sky, na, os, ag, w⟩ := xx
    have sky' : Sky G (X.env :: X.outer) a (Zc cls d) X.env.locals s'.heap := by
      rw [← hs]
      exact sky
    exact Sky.land Zc.steady (by rw [ok.frames, hs]) hf sky' fun h3 fl3 up3 => Landed.run hh ⟨J'.ofTry ok, nb, up.trans up3, fl3, na, os, ag⟩ hs hf tk w
  · cases f with
    | next =>
      obtain ⟨σ', H', J', q⟩ := hq
      exact wpAny_execs_nil ⟨σ', H', J'.ofTry ok, q⟩
    | ret u =>
      obtain ⟨v, σ', H', J', r, q⟩ := hq
      exact ⟨v, σ', H', J'.ofTry ok, r, q⟩
    | brk | cont =>
      obtain ⟨σ', H', J', q⟩ := hq
      exact ⟨σ', H', J'.ofTry ok, q⟩
end
end Cw

set_option maxHeartbeats 4000000
namespace Cw
open PySem PySem.Spec PyProof.Rows L2
/-- all but the object at b stands -/
def Mut (b : Addr) (H H' : Hp) : Prop := ∀ a o, a ≠ b → H a = some o → H' a = some o
theorem Mut.refl (b : Addr) (H : Hp) : Mut b H H := fun _ _ _ h => h
theorem Mut.trans {b : Addr} {H H1 H2 : Hp} (x : Mut b H H1) (y : Mut b H1 H2) : Mut b H H2 := fun a o z h => y a o z (x a o z h)
theorem Mut.of {b : Addr} {H H1 : Hp} (x : Ex H H1) : Mut b H H1 := fun a o _ h => x a o h
theorem Mut.upd {b : Addr} {H H1 : Hp} {o : HO} (x : Mut b H H1) : Mut b H (L2.upd H1 b o) := fun a u z h => by
  rw [upd_ne z]
  exact x a u z h
theorem Mut.new {b p : Addr} {H H1 : Hp} {o : HO} (x : Mut b H H1) (h : H1 p = none) : Mut b H (L2.upd H1 p o) := x.trans (Mut.of (Ex.new h))
theorem Mut.acc {b D : Addr} {H H1 : Hp} {o : HO} (x : Mut b H H1) (h : H D = none) : Mut b H (L2.upd H1 D o) := fun a u z q => by
  rw [upd_ne (ne_of_none q h)]
  exact x a u z q
theorem Ex.mu {b : Addr} {G H H1 : Hp} (e : Ex G H) (g : G b = none) (m : Mut b H H1) : Ex G H1 := fun a o h => m a o (fun z => by
  subst z
  rw [g] at h
  cases h) (e a o h)
section
variable {K : PySem.W.Frag} {σ : L2.St} {G H : Hp} {Q : VK} {ta tb : TE} {x y v : V} {i j n : Int}
theorem q_yes {Q : Bool → Hp → Prop} (h : Q true H) : tYes σ H Q := h
theorem line_lt {n : Nat} (h : n < 1000001) : n < sizeLine := Nat.lt_of_lt_of_le h (by decide)
theorem line_lt2 {n : Nat} (h : Nat.ble (n + 1) 100000 = true) : n < sizeLine := Nat.lt_of_lt_of_le (Nat.le_of_ble_eq_true h) (by decide)
theorem q_m1 {r : V → List V → Hp → VK → Prop} (h : ta σ H fun x H1 => (∃ a, x = .str a) ∧ tb σ H1 fun y H2 => r x [y] H2 Q) : tM1 r ta tb σ H Q := h
theorem q_ixS {z : Str} (hz : z.length ≤ sizeLine) (h0 : 0 ≤ i) (h1 : i < (z.length : Nat)) (q : ∀ c : Nat, Q (.str ⟨#[c]⟩) H) : rIx K (.str z) (.int i) H Q := by
  obtain ⟨k, rfl⟩ := Int.eq_ofNat_of_zero_le h0
  have hk : k < z.cps.toList.length := by
    have e : z.cps.toList.length = z.length := by rw [Array.length_toList] <;> rfl
    omega
  exact .inr (.inr ⟨z, k, _, rfl, rfl, hz, atI_nat (List.getElem?_eq_getElem hk), q _⟩)
theorem q_ixLn {a : Addr} {xs : List V} (h : SqL K H a xs) (h0 : 0 ≤ i) (h1 : i < (xs.length : Nat)) (q : ∀ v, v ∈ xs → Q v H) : rIx K (.ref a) (.int i) H Q := by
  obtain ⟨k, rfl⟩ := Int.eq_ofNat_of_zero_le h0
  have hk : k < xs.length := by omega
  exact q_ixL h (atI_nat (List.getElem?_eq_getElem hk)) (q _ (List.getElem_mem hk))
theorem q_join {a : Addr} {s : Str} {ys : List Str} (h : SqL K H a (ys.map V.str)) (hl : (ys.map (·.length)).sum + ys.length * s.length ≤ 16777216) (q : Q (.str (Txt.join s ys)) H) : rJoinA K (.str s) [.ref a] H Q := ⟨s, a, ys, rfl, rfl, .inl h, hl, q⟩
end
/-! what stands in a heap that grew -/
theorem upd_old {H : Hp} {a p : Addr} {o u : HO} (h : H a = some u) (hp : H p = none) : L2.upd H p o a = some u := by
  rw [upd_ne (ne_of_none h hp)]
  exact h
theorem upd_mu {H : Hp} {a b : Addr} {o u : HO} (h : H a = some u) (ne : a ≠ b) : L2.upd H b o a = some u := by
  rw [upd_ne ne]
  exact h
theorem Ex.ap {H H' : Hp} {a : Addr} {o : HO} (e : Ex H H') (h : H a = some o) : H' a = some o := e a o h
section
variable {K : PySem.W.Frag} {H : Hp} {Q : VK} {a b : Addr} {xs ys : List V} {v : V}
theorem q_cat (h1 : H a = some (.lst xs)) (h2 : H b = some (.lst ys)) (hl : xs.length + ys.length ≤ sizeLine) (q : ∀ p, H p = none → Q (.ref p) (L2.upd H p (.lst (xs ++ ys)))) : rAddA K (.ref a) (.ref b) H Q := .inr (.inl ⟨a, b, xs, ys, rfl, rfl, h1, h2, hl, q⟩)
theorem q_append (h : H a = some (.lst xs)) (hl : xs.length < sizeLine) (q : Q .non (L2.upd H a (.lst (xs ++ [v])))) : rAppend (.ref a) [v] H Q := ⟨a, xs, v, rfl, rfl, h, hl, q⟩
theorem q_bm {T : String} {r : V → List V → Hp → VK → Prop} {to : TE} {t : TA} {σ : L2.St} (h : to σ H fun x H1 => tyV K T x H1 ∧ t σ H1 fun xs H2 => r x xs H2 Q) : tBM K T r to t σ H Q := h
theorem q_bm0 {T : String} {r : V → List V → Hp → VK → Prop} {to : TE} {σ : L2.St} (h : to σ H fun x H1 => tyV K T x H1 ∧ r x [] H1 Q) : tBM0 K T r to σ H Q := h
theorem q_tyL {R : Prop} (h : H a = some (.lst xs)) (r : R) : tyV K "list" (.ref a) H ∧ R := ⟨.inl ⟨rfl, xs, .inl (.inl h)⟩, r⟩
end
/-! the rules, the module's facts named -/
section
variable {X : Cx} {K : PySem.W.Frag} {e : Expr} {ta tb : TE}
theorem op_addK (h : X.K = K) : OpR X (binaryOp .Add) (rAddA K) := h ▸ op_addA
theorem op_mulK (h : X.K = K) : OpR X (binaryOp .Mult) (rMulA K) := h ▸ op_mulA
theorem op_eqK (h : X.K = K) (u : X.A.units + 64 < cLine) : OpR X (compareOp .Eq) (rEqA K) := h ▸ op_eqA u
theorem op_neK (h : X.K = K) (u : X.A.units + 64 < cLine) : OpR X (compareOp .NotEq) (rNeA K) := h ▸ op_neA u
theorem op_inK (h : X.K = K) (u : X.A.units + 65 < cLine) : OpR X (compareOp .In) (rInA K) := h ▸ op_inA u
theorem op_niK (h : X.K = K) (u : X.A.units + 65 < cLine) : OpR X (compareOp .NotIn) (rNiA K) := h ▸ op_niA u
theorem ix_seqK (h : X.K = K) : IxR X (rIx K) := h ▸ ix_seq
theorem sl_anyK (h : X.K = K) : SlR X (rSlAny K) := h ▸ sl_anyA
theorem call_lenK (h : X.K = K) : CallR X (.builtin "len") (rLenA K) := h ▸ call_lenA
theorem call_listK (h : X.K = K) : CallR X (.type "list") (rListA K) := h ▸ call_listA
theorem call_tupK (h : X.K = K) : CallR X (.type "tuple") (rTupA K) := h ▸ call_tupA
theorem call_isiQ (h : X.K = K) : CallR X (.builtin "isinstance") (rIsi K) := h ▸ call_isi
theorem call_isiTQ (h : X.K = K) : CallR X (.builtin "isinstance") (rIsiT K) := h ▸ call_isiT
theorem call_isXK (h : X.K = K) : CallR X (.builtin "isinstance") (rIsX K) := h ▸ call_isX
theorem pe_joinK {o : Expr} {to : TE} {apos pos : Pos} (h : X.K = K) (ho : PE X o to) (he : PE X e ta) (hs : starEach [e] X.env = [(false, eval e X.env)] := by rfl) (hbase : attributeBase o "join" X.env (eval o X.env) = eval o X.env := by rfl) (hline : (apos.endLine == pos.line) = true := by rfl) :
    PE X (.Call (.Attribute o "join" apos) [e] [] pos) (tM1 (rJoinA K) to ta) := h ▸ pe_joinA ho he hs hbase hline
theorem pe_bmK {T id : String} {name : Str} {r : V → List V → Hp → VK → Prop} {o : Expr} {es : List Expr} {to : TE} {t : TA} {apos cpos : Pos} (h : X.K = K) (pa : PlainAttrs T) (slot : Slot T name id) (hty : typeOf (.builtin id) = pure (.type "method_descriptor")) (hm : MtR X id r) (ho : PE X o to) (ha : PA X (e :: es) t)
    (hbase : attributeBase o name X.env (eval o X.env) = eval o X.env := by rfl)
    (hfew : ((backTo cpos (starEach (e :: es) X.env)).all (fun x => !x.1) && (backToKw cpos (keywordEach [] X.env)).all (fun x => x.1.isSome)
      && decide ((e :: es).length + ([] : List Keyword).length + (if ([] : List Keyword).isEmpty then 0 else 1) < 30)) = true := by rfl)
    (hline : (apos.endLine == cpos.line) = true := by rfl) (hs : starEach (e :: es) X.env = (false, eval e X.env) :: starEach es X.env := by rfl) (hplain : (backTo cpos (starEach es X.env)).any (·.1) = false := by rfl) : PE X (.Call (.Attribute o name apos) (e :: es) [] cpos) (tBM K T r to t) :=
  h ▸ pe_bm pa slot hty hm ho ha hbase hfew hline hs hplain
theorem pe_bm0K {T id : String} {name : Str} {r : V → List V → Hp → VK → Prop} {o : Expr} {to : TE} {apos cpos : Pos} (h : X.K = K) (pa : PlainAttrs T) (slot : Slot T name id) (hty : typeOf (.builtin id) = pure (.type "method_descriptor")) (hm : MtR X id r) (ho : PE X o to)
    (hbase : attributeBase o name X.env (eval o X.env) = eval o X.env := by rfl) (hline : (apos.endLine == cpos.line) = true := by rfl) : PE X (.Call (.Attribute o name apos) [] [] cpos) (tBM0 K T r to) := h ▸ pe_bm0 pa slot hty hm ho hbase hline
theorem pi_seqK {tg : Expr} (h : X.K = K) (he : PE X e ta) : PI X tg e (iSeqA K ta) := h ▸ pi_seqA he
theorem pe_xatK {pos : Pos} {n : Str} (h : X.K = K) (he : PE X e ta) (hb : attributeBase e n X.env (eval e X.env) = eval e X.env := by rfl) : PE X (.Attribute e n pos) (tXat K n ta) := h ▸ pe_xat he hb
end
/-! exceptions, read -/
section
variable {X : Cx} {K : PySem.W.Frag} {mg : Str → Option Value} {σ : L2.St} {H : Hp} {Q : VK} {D : Ends} {ta : TE} {ts : TA} {x fld f : Str} {C a : Addr} {cls c : Value} {d : Option Addr} {v : V} {Wout W : WX} {su : Suite} {l : List (Value × Suite)} {i : Nat}
theorem Xn.xf (T : Xn K mg x fld C) : XfC K C ∧ PySem.W.findIn K (.ref C) fld = some none := by
  obtain ⟨_, fI, st, qual, fd, T, _, _⟩ := T
  exact ⟨T.xf, T.no⟩
def tTryA (K : PySem.W.Frag) (Wout : WX) (tb : WX → TS) (l : List (Value × Suite)) : TS := fun D σ H => tb (wMany K Wout D l) D σ H
theorem ps_tryK {body : List Stmt} {h₀ : ExceptHandler} {hds : List ExceptHandler} {pos : Pos} {tb : WX → TS} (h : X.K = K) (hs : X.stack = X.env :: X.outer) (hf : X.env.frame = some X.env.locals) (tk : Takes X Wout)
    (hb : ∀ (W : WX) (pn : List (Addr × Obj)) (xe : Value → Shared → Prop), Takes (X.tr pn xe) W → PassesOwn (model X.prog X.w) X.A X.env xe → PSs (X.tr pn xe) body (tb W)) (hh : HdsA X (h₀ :: hds) l) : PS X (.Try body (h₀ :: hds) [] [] pos) (tTryA K Wout tb l) := h ▸ ps_tryA hs hf tk hb hh
theorem q_tryA {tb : WX → TS} (h : tb (wMany K Wout D l) D σ H) : tTryA K Wout tb l D σ H := h
theorem q_callS {sp : Sp} {E : L2.St → XK} (h : ts σ H fun vs H1 => sp vs H1 Q (E σ)) : tCallS sp E ts σ H Q := h
theorem q_wY (hb : PySem.W.exmOne K cls c = some true) (h : ∀ a, H a = none → su a cls d D σ H) : wMany K Wout D ((c, su) :: l) cls d σ H := ⟨true, hb, fun _ => h, fun z => nomatch z⟩
theorem q_wN (hb : PySem.W.exmOne K cls c = some false) (h : wMany K Wout D l cls d σ H) : wMany K Wout D ((c, su) :: l) cls d σ H := ⟨false, hb, (fun z => nomatch z), fun _ => h⟩
theorem q_as {t : Suite} (h : t a cls d { nx := fun z G => D.nx (z.set i none) G, rt := D.rt, bk := fun z G => D.bk (z.set i none) G, ct := fun z G => D.ct (z.set i none) G } (σ.set i (some (.ref a))) H) : asS i t a cls d D σ H := h
theorem q_xfV {dd : Addr} {fs : List (Str × V)} {k : Nat} (h : σ[k]? = some (some (.ref a))) (hd : H dd = some (.xd fs)) (hl : fs.lookup f = some v) (q : Q v H) : tXf a (.ref C) (some dd) C f (tVar k) σ H Q := ⟨.ref a, h, rfl, rfl, dd, fs, v, rfl, hd, hl, q⟩
theorem q_xat (h : ta σ H fun x H1 => rXat K f x H1 Q) : tXat K f ta σ H Q := h
theorem lk1 : List.lookup f [(f, v)] = some v := by simp [List.lookup]
theorem q_xatE {d' : Addr} (T : Xn K mg x f C) (ha : H a = some (ExH C d' a)) (hd : H d' = some (.xd [(f, v)])) (q : Q v H) :
    rXat K f (.ref a) H Q := ⟨a, C, d', _, v, rfl, ha, T.xf.1, T.xf.2, hd, lk1, q⟩
theorem q_xatF {d' : Addr} (ha : H a = some (ExH C d' a)) (hd : H d' = some (.xd [(f, v)])) (T : Xn K mg x f C) (q : Q v H) : rXat K f (.ref a) H Q := q_xatE T ha hd q
theorem q_isXe {d' : Addr} {u : V} {b : Bool} {H0 : Hp} (T : Xn K mg x f C) (ha : H0 a = some (ExH C d' a)) (hd : H0 d' = some (.xd [(f, v)])) (e : Ex H0 H) {w : Value} (hc : ClsV u w) (hk : PySem.W.kitOne K (.ref C) w = some b) (q : Q (.bl b) H) : rIsX K [.ref a, u] H Q := by
  obtain ⟨_, fI, st, qual, fd, T, _, _⟩ := T
  exact ⟨a, C, d', fI, f, _, u, w, b, rfl, e _ _ ha, e _ _ hd, T, hc, hk, q⟩
theorem q_isX {d' : Addr} {u : V} {b : Bool} (T : Xn K mg x f C) (ha : H a = some (ExH C d' a)) (hd : H d' = some (.xd [(f, v)])) {w : Value} (hc : ClsV u w) (hk : PySem.W.kitOne K (.ref C) w = some b) (q : Q (.bl b) H) : rIsX K [.ref a, u] H Q := by
  obtain ⟨_, fI, st, qual, fd, T, _, _⟩ := T
  exact ⟨a, C, d', fI, f, _, u, w, b, rfl, ha, hd, T, hc, hk, q⟩
theorem q_raise (h : ts σ H fun vs H1 => ∃ v, vs = [v] ∧ ∀ d, H1 d = none → W (.ref C) (some d) σ (upd H1 d (.xd [(fld, v)]))) : tRaiseX C fld W ts D σ H := h
theorem q_mkOne {R : V → Prop} (h : R v) : ∃ u, [v] = [u] ∧ R u := ⟨v, rfl, h⟩
theorem q_new (h : ts σ H fun vs H1 => ∃ v, vs = [v] ∧ ∀ d e, H1 d = none → H1 e = none → e ≠ d → Q (.ref e) (upd (upd H1 d (.xd [(fld, v)])) e (ExH C d e))) : tNewX C fld ts σ H Q := h
theorem q_newE (h : ts σ H fun vs H1 => ∃ v, vs = [v] ∧ ∀ d e H2, Ex H1 H2 → H2 d = some (.xd [(fld, v)]) → H2 e = some (ExH C d e) → Q (.ref e) H2) (mono : ∀ R R' : List V → Hp → Prop, (∀ vs G, R vs G → R' vs G) → ts σ H R → ts σ H R') : tNewX C fld ts σ H Q := by
  refine mono _ _ (fun vs H1 ⟨v, e1, k⟩ => ⟨v, e1, fun d e hd he ne => ?_⟩) h
  have h2 : upd H1 d (.xd [(fld, v)]) e = none := by
    rw [upd_ne ne]
    exact he
  exact k d e _ ((Ex.new hd).trans (Ex.new h2)) (by rw [upd_ne (Ne.symm ne)]; exact upd_same) upd_same
/-- .. of one value that is read by a variable -/
theorem q_newV {j : Nat} (hj : σ[j]? = some (some v)) (h : ∀ d e H2, Ex H H2 → H2 d = some (.xd [(fld, v)]) → H2 e = some (ExH C d e) → Q (.ref e) H2) : tNewX C fld (tCons (tVar j) tNil) σ H Q :=
  q_newE ⟨v, hj, v, rfl, h⟩ fun R R' k ⟨u, hu, r⟩ => ⟨u, hu, k _ _ r⟩
theorem pe_callX0 {k : Nat} {ps : List Str} {sp : Sp} {e : Expr} {es : List Expr} {p pos : Pos} (C : CalX X.prog X.w X.K X.mg X.base k x ps sp) (hr : Room k X.A) (hg : Gl X x) (ha : PA X (e :: es) ts)
    (hdb : (x == ("__debug__" : Str)) = false := by decide) (he : starEach (e :: es) X.env = (false, eval e X.env) :: starEach es X.env := by rfl) (hpl : (backTo pos (starEach es X.env)).any (·.1) = false := by rfl) :
    PE X (.Call (.Name x p) (e :: es) [] pos) (tCallS sp (fun _ => E0) ts) := pe_callXC C hr hg (fun σ pins H s e s' _ c => by
  obtain ⟨_, _, _, _, _, _, _, _, _, _, _, _, z⟩ := c
  exact z.elim) ha hdb he hpl
end
/-- a def's promise, as the end wants it -/
theorem fnok_of {P : Program} {w : World} {K : PySem.W.Frag} {mg : Str → Option Value} {base : Heap} {x : Str} {st : Stmt} {f : Addr} {fd : FuncData} {N ps : List Str} {k : Nat} {sp : Sp} (F : FnP K x st f fd) (S : FnScope N ps (defScope st)) (len : ∀ vs H Q E, sp vs H Q E → vs.length = ps.length)
    (body : ∀ (cdv : Value) (A : Around) (outer : List Env) (s : Shared) (H : Hp) (vs : List V) (Q : VK) (E : XK), Room k (A.deeper (envOfC x (defScope st) s.heap.objs.size f cdv)) → sp vs H Q E →
      ∃ t σ, PSs (cxOf CX0 P w K mg base N x (defScope st) f cdv A outer s H E).nox (defBody st) t ∧ start N vs = σ ∧ t { nx := fun _ H' => Q .non H', rt := Q } σ H) : FnOk P w K mg base CX0 (k + 1) f fd ps sp :=
  FunD.ok F S len (fun cdv A outer s H vs Q E hr h => by
    obtain ⟨t, σ, h1, rfl, h2⟩ := body cdv A outer s H vs Q E hr h
    exact ⟨t, PSs.nox h1, h2⟩)
theorem sum_ones : ∀ {ys : List Str}, (∀ y ∈ ys, y.length = 1) → (ys.map (·.length)).sum = ys.length
  | [], _ => rfl
  | y :: ys, h => by
    rw [List.map_cons, List.sum_cons, h y (List.mem_cons_self ..), sum_ones (ys := ys) (fun z hz => h z (List.mem_cons_of_mem _ hz)), List.length_cons, Nat.add_comm]
end Cw

set_option maxHeartbeats 4000000
/-! what the top leaves of classes of errors, beside the facts by names -/
namespace Cw
open PySem PySem.Spec PyProof.Rows L2
inductive Xf where
  | xc (x fld : Str)
  | exm (x y : Str) (b : Bool)
  | kit (x y : Str) (b : Bool)
  | kitT (x : Str) (T : String) (b : Bool)
def Xf.ok (K : PySem.W.Frag) : Xf → Bool
  | .xc x f => xcB K (He.ga K x) (He.ma K (He.ga K x) "__init__") f
  | .exm x y b => decide (PySem.W.exmOne K (.ref (He.ga K x)) (.ref (He.ga K y)) = some b)
  | .kit x y b => decide (PySem.W.kitOne K (.ref (He.ga K x)) (.ref (He.ga K y)) = some b)
  | .kitT x T b => decide (PySem.W.kitOne K (.ref (He.ga K x)) (.type T) = some b)
abbrev AlX : Type := He.AlD × Bool
def obsX (fa : List He.Fa) (fn : List He.DefD) (xs : List Xf) (K : PySem.W.Frag) : AlX := (He.obsD fa fn K, xs.all fun x => x.ok K)
def obsXG (n : Nat) (fa : List He.Fa) (fn : List He.DefD) (xs : List Xf) (g : Addr → Option Obj) : AlX := obsX fa fn xs (He.frG g (He.asD g n))
def SaysX (fa : List He.Fa) (fn : List He.DefD) (xs : List Xf) (K : PySem.W.Frag) : Prop := obsX fa fn xs K = (He.valD fn, true)
def hookX (n : Nat) (fa : List He.Fa) (fn : List He.DefD) (xs : List Xf) : PySem.W.Hook where
  α := AlX
  obs := fun s => obsXG n fa fn xs s.heap.get?
  val := fun _ => (He.valD fn, true)
  says := fun _ h => ∃ K : PySem.W.Frag, K.In h ∧ SaysX fa fn xs K
  of := fun _ _ e => ⟨_, He.frG_in, e⟩
  keeps := fun _ _ _ ⟨K, hK, c⟩ k => ⟨K, PySem.W.Frag.In.keeps hK k, c⟩
theorem obsXG_eq {n : Nat} {fa : List He.Fa} {fn : List He.DefD} {xs : List Xf} {g : Addr → Option Obj} {s : Shared} (h : ∀ a, g a = s.heap.get? a) : obsXG n fa fn xs g = (hookX n fa fn xs).obs s := by
  have e : g = s.heap.get? := funext h
  rw [e] <;> rfl
section
variable {fa : List He.Fa} {fn : List He.DefD} {xs : List Xf} {K : PySem.W.Frag}
theorem SaysX.d (c : SaysX fa fn xs K) : He.SaysD fa fn K := congrArg (fun z : AlX => z.1) c
theorem SaysX.x (c : SaysX fa fn xs K) {x : Xf} (h : x ∈ xs) : x.ok K = true := List.all_eq_true.mp (congrArg (fun z : AlX => z.2) c) x h
theorem SaysX.f (c : SaysX fa fn xs K) {x : He.Fa} (h : x ∈ fa) : x.ok K = true := by
  obtain ⟨i, h1, h2⟩ := List.getElem_of_mem h
  exact c.d.fact i (by rw [List.getElem?_eq_getElem h1, h2])
end
/-- the first statement of a class's body -/
def clsInit (st : Stmt) (i : Nat) : Stmt := match st with
  | .ClassDef _ _ _ body _ _ _ _ _ _ _ => body.getD i (.Pass ⟨0, 0, 0, 0⟩)
  | _ => .Pass ⟨0, 0, 0, 0⟩
/-- the built-in names that are asked free -/
def bltNames : List Str := ["len", "range", "int", "str", "bool", "list", "tuple", "set", "dict", "isinstance", "all", "any", "enumerate", "zip", "min", "max", "sum", "sorted", "reversed", "Exception", "ValueError"]
theorem blt_of {mg : Str → Option Value} (h : ∀ x ∈ bltNames, mg x = none) : Blt mg := by
  constructor
  all_goals
    apply h
    decide
end Cw

set_option maxHeartbeats 4000000
local macro_rules | `(tactic| walk_at "ex") => `(tactic| first
  | assumption
  | exact Cw.Ex.refl _
  | ((refine Cw.Ex.trans ?_ (Cw.Ex.new (by assumption))); walk_at "ex")
  | ((refine Cw.Ex.mut ?_ (by assumption)); walk_at "ex")
  | ((refine Cw.Ex.trans ?_ (by assumption)); walk_at "ex"))
local macro_rules | `(tactic| walk_at "at") => `(tactic| first
  | assumption
  | exact L2.upd_same
  | ((refine Cw.upd_old ?_ (by assumption)); walk_at "at")
  | ((refine Cw.upd_mu ?_ (by assumption)); walk_at "at")
  | ((refine Cw.Ex.ap (by assumption) ?_); walk_at "at"))
local macro_rules | `(tactic| walk_at "rp") => `(tactic| first
  | assumption
  | exact Cw.Rp.int _ | exact Cw.Rp.str _ | exact Cw.Rp.bl _ | exact Cw.Rp.non
  | ((refine Cw.Rp.mono (by assumption) ?_); walk_at "rp"))
local macro_rules | `(tactic| walk_at "yes") => `(tactic| first | exact rfl | assumption | omega | decide)
local macro_rules | `(tactic| walk_at "no") => `(tactic| first | assumption | omega | (intro h; cases h; done) | decide)
local macro_rules | `(tactic| walk_at "qS") => `(tactic| with_reducible first
  | refine Cw.q_c ?_ | refine Cw.q_op ?_ | refine Cw.q_nil ?_ | refine Cw.q_cons ?_ | refine Cw.q_call ?_ | refine Cw.q_cb ?_ | refine Cw.q_seq ?_ | refine Cw.q_asg ?_ | refine Cw.q_ifs ?_ | refine Cw.q_test ?_ | refine Cw.q_B ?_ | refine Cw.q_ret ?_
  | refine Cw.q_next ?_ | refine Cw.q_drop ?_ | refine Cw.q_not ?_ | refine Cw.q_and ?_ | refine Cw.q_or ?_ | refine Cw.q_andV ?_ | refine Cw.q_orV ?_ | refine Cw.q_notV ?_ | refine Cw.q_ife ?_
  | refine Cw.q_tup ?_ | refine Cw.q_lst ?_ | refine Cw.q_un ?_ | refine Cw.q_sl ?_ | refine Cw.q_no ?_ | refine Cw.q_part ?_ | refine Cw.q_forR1 ?_ | refine Cw.q_lcR1 ?_ | refine Cw.q_name ?_ | refine Cw.q_asgG ?_ | refine Cw.q_sub ?_ | refine Cw.q_retN ?_ | refine Cw.q_m1 ?_ | refine Cw.q_yes ?_ | refine Cw.q_bm ?_ | refine Cw.q_bm0 ?_ | refine Cw.q_tryA ?_ | refine Cw.q_callS ?_ | refine Cw.q_raise ?_ | refine Cw.q_xat ?_ | refine Cw.q_as ?_)
local macro_rules | `(tactic| walk_at "qX") => `(tactic| with_reducible first
  | refine Cw.q_bl ?_ | refine Cw.q_blI ?_ | refine Cw.q_mkOne ?_ | refine Cw.q_some ?_)
local macro_rules | `(tactic| walk_at "qO") => `(tactic| with_reducible first
  | refine Cw.q_add ?_ | refine Cw.q_sub2 ?_ | refine Cw.q_neg ?_ | refine Cw.q_int ?_ | refine Cw.q_intB ?_ | refine Cw.q_lt ?_ | refine Cw.q_le ?_ | refine Cw.q_gt ?_ | refine Cw.q_ge ?_
  | refine Cw.q_eqI ?_ | refine Cw.q_neI ?_ | refine Cw.q_eqS ?_ | refine Cw.q_neS ?_ | refine Cw.q_eqB ?_ | refine Cw.q_neB ?_ | refine Cw.q_isN ?_ | refine Cw.q_isntN ?_ | refine Cw.q_isB ?_)
local macro_rules | `(tactic| walk_at "q1") => `(tactic| first
  | walk_at "qS"
  | ((with_reducible show L2.tVar _ _ _ _); (refine Cw.q_var (by exact rfl) ?_))
  | ((with_reducible show Exists _); walk_at "qX")
  | ((with_reducible show L2.tXf _ _ _ _ _ _ _ _ _); (refine Cw.q_xfV (by exact rfl) (by first | exact L2.upd_same | assumption) Cw.lk1 ?_))
  | ((with_reducible show if _ = true then _ else _); first
      | (with_reducible refine Cw.q_ift ?_) | (with_reducible refine Cw.q_iff ?_)
      | ((with_reducible show if decide _ = true then _ else _); first | (refine Cw.q_ifdT (by walk_at "yes") ?_) | (refine Cw.q_ifdF (by walk_at "no") ?_))
      | ((with_reducible show if (!decide _) = true then _ else _); first | (refine Cw.q_ifndF (by walk_at "yes") ?_) | (refine Cw.q_ifndT (by walk_at "no") ?_))
      | (refine (Cw.q_ifTr (by exact rfl) ?_)) | (refine (Cw.q_ifFa (by exact rfl) ?_)))
  | walk_at "qO"
  | ((with_reducible show L2.rIx _ (L2.V.ref _) (L2.V.int _) (L2.upd _ _ _) _); (refine Cw.q_ixU (by exact rfl) ?_))
  | ((with_reducible show L2.rIx _ (L2.V.ref _) (L2.V.int _) _ _); (refine Cw.q_ixC (by walk_at "at") (by exact rfl) ?_))
  | ((with_reducible show Cw.rXat _ _ (L2.V.ref _) _ _); (refine Cw.q_xatF (by walk_at "at") (by walk_at "at") (by assumption) ?_))
  | ((with_reducible show L2.rSetL (L2.V.ref _) (L2.V.int _) _ (L2.upd _ _ _) _); (refine Cw.q_setU (by exact rfl) ?_))
  | ((with_reducible show L2.rI _ _ (L2.V.int _) (L2.V.int _) _ _); first
      | refine Cw.q_mod (by first | decide | assumption | omega) ?_
      | refine Cw.q_fdiv (by first | decide | (constructor <;> first | assumption | omega)) ?_
      | refine Cw.q_pow (by exact ⟨by decide, by decide, by decide⟩) ?_)
  | ((with_reducible show Cw.rMulA _ (L2.V.int _) (L2.V.int _) _ _); (refine Cw.q_mul (by first | (left; decide) | (right; decide) | (left; constructor <;> omega) | (right; constructor <;> omega)) ?_))
  | ((with_reducible show List.length _ ≤ PySem.sizeLine ∧ _); (refine And.intro (Cw.line_of (by exact rfl)) ?_); intro p hp)
  | ((with_reducible show Cw.rAddA _ (L2.V.ref _) (L2.V.ref _) _ _); (refine Cw.q_cat (by walk_at "at") (by walk_at "at") (Cw.line_of (by exact rfl)) ?_); intro p hp)
  | ((with_reducible show L2.rAppend (L2.V.ref _) [_] _ _); (refine Cw.q_append (by walk_at "at") (by first | exact Cw.line_lt2 (by exact rfl) | exact Cw.line_lt (by omega)) ?_))
  | ((with_reducible show L2.tyV _ "list" (L2.V.ref _) _ ∧ _); (refine Cw.q_tyL (by walk_at "at") ?_))
  | ((with_reducible show L2.rIsi _ [_, L2.V.ty _] _ _); first
      | (with_reducible first | refine Cw.q_iNonInt ?_ | refine Cw.q_iNonBool ?_ | refine Cw.q_iNonStr ?_ | refine Cw.q_iNonLst ?_ | refine Cw.q_iNonTup ?_ | refine Cw.q_iBlInt ?_ | refine Cw.q_iBlBool ?_ | refine Cw.q_iBlStr ?_ | refine Cw.q_iBlLst ?_ | refine Cw.q_iBlTup ?_ | refine Cw.q_iInInt ?_ | refine Cw.q_iInBool ?_ | refine Cw.q_iInStr ?_ | refine Cw.q_iInLst ?_ | refine Cw.q_iInTup ?_ | refine Cw.q_iStInt ?_ | refine Cw.q_iStBool ?_ | refine Cw.q_iStStr ?_ | refine Cw.q_iStLst ?_ | refine Cw.q_iStTup ?_)
      | refine Cw.q_isiInt (by walk_at "rp") (by walk_at "ex") ?_
      | refine Cw.q_isiBool (by walk_at "rp") (by walk_at "ex") ?_
      | refine Cw.q_isiStr (by walk_at "rp") (by walk_at "ex") ?_
      | refine Cw.q_isiLst (by walk_at "rp") (by walk_at "ex") ?_
      | refine Cw.q_isiTup (by walk_at "rp") (by walk_at "ex") ?_)
  | ((with_reducible show L2.rIsiT _ [_, L2.V.ref _] _ _); first
      | refine Cw.q_isiTL (by walk_at "rp") (by walk_at "ex") (by first | assumption | exact L2.upd_same) ?_
      | refine Cw.q_isiLT (by walk_at "rp") (by walk_at "ex") (by first | assumption | exact L2.upd_same) ?_)
  | ((with_reducible show Cw.rLenA _ [_] _ _); first
      | refine Cw.q_lenRT (by walk_at "rp") (by walk_at "ex") ?_
      | refine Cw.q_lenRL (by walk_at "rp") (by walk_at "ex") ?_))
local macro_rules | `(tactic| walk_at "q") => `(tactic| repeat walk_at "q1")
namespace Cw
open PySem PySem.Spec PyProof.Rows L2
def topS (i : Nat) : Stmt := PySem.Challenge.pw_cutweave_k00_errors.main.body.getD i (.Pass ⟨0, 0, 0, 0⟩)
section
variable {P : Program} {w : World} {K : PySem.W.Frag} {mg : Str → Option Value} {base : Heap}
abbrev s__law_mix : Stmt := topS 12
abbrev N__law_mix : List Str := ["cell", "salt", "one"]
theorem sc__law_mix : FnScope N__law_mix ["cell", "salt"] (defScope s__law_mix) := ⟨rfl, rfl, rfl, by decide +kernel, rfl, by decide +kernel, by decide +kernel⟩
def sp_mix : Sp := fun vs H Q _ => ∃ c s : Int, vs = [.int c, .int s] ∧ ∀ r : Int, 0 ≤ r → Q (.int r) H
theorem c_mix {f : Addr} {fd : FuncData} (F : FnP K "_law_mix" s__law_mix f fd) (hm : mg "_law_mix" = some (.ref f)) (B : Blt mg) : Cal P w K mg base 1 "_law_mix" ["cell", "salt"] sp_mix := by
  refine cal_of F hm sc__law_mix (fun _ _ _ _ _ _ _ us hl => match us, hl with | [_, _], _ => rfl) (fun vs H Q E h => ?_) (fun cdv A outer s H vs Q E hr h => ?_)
  · obtain ⟨c, s, rfl, _⟩ := h
    rfl
  · obtain ⟨c, s, rfl, q⟩ := h
    have nd := sc__law_mix.nd
    refine ⟨_, [some _, some _, none], (pss_cons (ps_set (i := 2) nd rfl (Or.inl rfl) (pe_op op_mod (pe_callTy call_intA (by rfl) B.int_ bo_int (pa_cons (pe_op op_addA (pe_op op_addA (pe_op op_mulA (pv 0) pe_int) (pe_op op_mulA (pv 1) pe_int)) pe_int) pa_nil)) pe_int))
      (pss_one (ps_ret (pe_op op_mod (pe_callTy call_intA (by rfl) B.int_ bo_int (pa_cons (pe_op op_addA (pe_op op_addA (pe_op op_mulA (pv 2) (pv 2)) (pe_op op_mulA (pv 2) pe_int)) (pe_op op_mulA (pv 1) pe_int)) pa_nil)) pe_int)))), rfl, ?_⟩
    walk_at "q"
    exact q _ (Int.emod_nonneg _ (by decide))

abbrev s__law_draw : Stmt := topS 14
abbrev N__law_draw : List Str := ["box", "many", "cell", "drawn"]
theorem sc__law_draw : FnScope N__law_draw ["box", "many"] (defScope s__law_draw) := ⟨rfl, rfl, rfl, by decide +kernel, rfl, by decide +kernel, by decide +kernel⟩
/-- a box of draws: what is left, digits, the next place, draws mixed, seed, the numbers -/
def BoxL (K : PySem.W.Frag) (G : Hp) (xs : List V) : Prop := ∃ (x0 x1 x2 x3 x4 : Int) (c : Addr) (ns : List Int), xs = [.int x0, .int x1, .int x2, .int x3, .int x4, .ref c] ∧ SqL K G c (ns.map V.int) ∧ 0 ≤ x2
def sp_draw (K : PySem.W.Frag) : Sp := fun vs H Q _ => ∃ (G : Hp) (b : Addr) (many : Int) (xs : List V), vs = [.ref b, .int many] ∧ Ex G H ∧ G b = none ∧ H b = some (.lst xs) ∧ BoxL K G xs ∧ (0 < many ∧ many < 1073741824) ∧
  ∀ (r : Int) (ys : List V), 0 ≤ r → r < many → BoxL K G ys → Q (.int r) (upd H b (.lst ys))
theorem c_draw {f : Addr} {fd : FuncData} (F : FnP K "_law_draw" s__law_draw f fd) (hm : mg "_law_draw" = some (.ref f)) (B : Blt mg) (C__law_mix : Cal P w K mg base 1 "_law_mix" ["cell", "salt"] sp_mix) : Cal P w K mg base 2 "_law_draw" ["box", "many"] (sp_draw K) := by
  refine cal_of F hm sc__law_draw (fun _ _ _ _ _ _ _ us hl => match us, hl with | [_, _], _ => rfl) (fun vs H Q E h => ?_) (fun cdv A outer s H vs Q E hr h => ?_)
  · obtain ⟨_, _, _, _, rfl, _⟩ := h
    rfl
  · obtain ⟨G, b, many, xs, rfl, eG, gb, hb, ⟨x0, x1, x2, x3, x4, c, ns, rfl, hS, h2⟩, hmny, q⟩ := h
    have nd := sc__law_draw.nd
    refine ⟨_, [some _, some _, none, none], ((pss_cut (ps_if (PW.pt (pw_and (pt_cmpR (op_eqK (K := K) rfl (hu64 hr)) (pe_ix (ix_seqK (K := K) rfl) (pv 0) pe_int (fun _ _ => rfl)) pe_int (nomark _)) (pw_and1 (pt_cmpR op_lt (pe_ix (ix_seqK (K := K) rfl) (pv 0) pe_int (fun _ _ => rfl)) (pe_callB (call_lenK (K := K) rfl) (by rfl) B.len_ bo_len (pa_cons (pe_ix (ix_seqK (K := K) rfl) (pv 0) pe_int (fun _ _ => rfl)) pa_nil)) (nomark _))))) (pss_cons (ps_set (i := 2) nd rfl (Or.inl rfl) (pe_ix (ix_seqK (K := K) rfl) (pe_ix (ix_seqK (K := K) rfl) (pv 0) pe_int (fun _ _ => rfl)) (pe_ix (ix_seqK (K := K) rfl) (pv 0) pe_int (fun _ _ => rfl)) (fun _ _ => rfl)))
      (pss_cons (ps_asg (pe_op (op_addK (K := K) rfl) (pe_ix (ix_seqK (K := K) rfl) (pv 0) pe_int (fun _ _ => rfl)) pe_int) (pg_sub (pv 0) pe_int set_list))
      (pss_cons (ps_asg (pe_op op_mod (pe_callTy call_intA (by rfl) B.int_ bo_int (pa_cons (pe_op (op_addK (K := K) rfl) (pe_op (op_mulK (K := K) rfl) (pe_ix (ix_seqK (K := K) rfl) (pv 0) pe_int (fun _ _ => rfl)) pe_int) (pv 2)) pa_nil)) pe_int) (pg_sub (pv 0) pe_int set_list))
      (pss_one (ps_if (pt_cmpR op_ge (pv 2) (pe_op op_pow pe_int pe_int) (nomark _)) (pss_cons (ps_asg (pe_op op_sub (pv 2) (pe_op op_pow pe_int pe_int)) (pg_sub (pv 0) pe_int set_list))
      (pss_one (ps_asg pe_int (pg_sub (pv 0) pe_int set_list)))) pss_nil))))) pss_nil)
      (pss_cons (ps_if (PW.pt (pw_and (pt_cmpR op_gt (pe_ix (ix_seqK (K := K) rfl) (pv 0) pe_int (fun _ _ => rfl)) pe_int (nomark _)) (pw_and1 (pt_cmpR op_gt (pe_ix (ix_seqK (K := K) rfl) (pv 0) pe_int (fun _ _ => rfl)) pe_int (nomark _))))) (pss_cons (ps_set (i := 3) nd rfl (Or.inl rfl) (pe_op op_mod (pe_callTy call_intA (by rfl) B.int_ bo_int (pa_cons (pe_ix (ix_seqK (K := K) rfl) (pv 0) pe_int (fun _ _ => rfl)) pa_nil)) (pv 1)))
      (pss_cons (ps_asg (pe_op op_fdiv (pe_ix (ix_seqK (K := K) rfl) (pv 0) pe_int (fun _ _ => rfl)) (pv 1)) (pg_sub (pv 0) pe_int set_list))
      (pss_cons (ps_asg (pe_op op_sub (pe_ix (ix_seqK (K := K) rfl) (pv 0) pe_int (fun _ _ => rfl)) pe_int) (pg_sub (pv 0) pe_int set_list))
      (pss_one (ps_ret (pv 3)))))) pss_nil)
      (pss_cons (ps_asg pe_int (pg_sub (pv 0) pe_int set_list))
      (pss_cons (ps_asg (pe_op (op_addK (K := K) rfl) (pe_ix (ix_seqK (K := K) rfl) (pv 0) pe_int (fun _ _ => rfl)) pe_int) (pg_sub (pv 0) pe_int set_list))
      (pss_one (ps_ret (pe_op op_mod (pe_callTy call_intA (by rfl) B.int_ bo_int (pa_cons (pe_callC C__law_mix (hr.mono (by omega)) (by rfl) (pa_cons (pe_ix (ix_seqK (K := K) rfl) (pv 0) pe_int (fun _ _ => rfl)) (pa_cons (pe_ix (ix_seqK (K := K) rfl) (pv 0) pe_int (fun _ _ => rfl)) pa_nil))) pa_nil)) (pv 1))))))))), rfl, ?_⟩
    rw [← upd_id hb]
    refine q_cut (M := fun σ' H' => ∃ z x0 x1 x2 x3 x4, σ' = [some (.ref b), some (.int many), z, none] ∧ H' = upd H b (.lst [.int x0, .int x1, .int x2, .int x3, .int x4, .ref c]) ∧ 0 ≤ x2) ?_ ?_
    · walk_at "q"
      refine q_ifd (fun _ => ?_) (fun _ => ?_)
      · walk_at "q"
        refine q_lenC (Ex.sl (Ex.mut eG gb) hS) ?_
        walk_at "q"
        refine q_ifd (fun hl => ?_) (fun _ => ?_)
        · walk_at "q"
          refine q_ixInts (Ex.sl (Ex.mut eG gb) hS) h2 (by simpa using hl) (fun cell _ => ?_)
          walk_at "q"
          refine q_ifd (fun _ => ?_) (fun _ => ?_)
          · walk_at "q"
            exact ⟨_, _, _, _, _, _, rfl, rfl, by omega⟩
          · walk_at "q"
            exact ⟨_, _, _, _, _, _, rfl, rfl, by omega⟩
        · walk_at "q"
          exact ⟨_, _, _, _, _, _, rfl, rfl, by omega⟩
      · walk_at "q"
        exact ⟨_, _, _, _, _, _, rfl, rfl, by omega⟩
    · rintro _ _ ⟨z, x0, x1, x2, x3, x4, rfl, rfl, h2⟩
      obtain ⟨hm0, hm1⟩ := hmny
      walk_at "q"
      refine q_ifd (fun _ => ?_) (fun _ => ?_)
      · walk_at "q"
        refine q_ifd (fun _ => ?_) (fun _ => ?_)
        · walk_at "q"
          exact q _ _ (Int.emod_nonneg _ (by omega)) (Int.emod_lt_of_pos _ hm0) ⟨_, _, _, _, _, _, _, rfl, hS, h2⟩
        · walk_at "q"
          refine ⟨_, _, rfl, fun r _ => ?_⟩
          walk_at "q"
          exact q _ _ (Int.emod_nonneg _ (by omega)) (Int.emod_lt_of_pos _ hm0) ⟨_, _, _, _, _, _, _, rfl, hS, h2⟩
      · walk_at "q"
        refine ⟨_, _, rfl, fun r _ => ?_⟩
        walk_at "q"
        exact q _ _ (Int.emod_nonneg _ (by omega)) (Int.emod_lt_of_pos _ hm0) ⟨_, _, _, _, _, _, _, rfl, hS, h2⟩
end
end Cw

set_option maxHeartbeats 4000000
namespace Cw
open PySem PySem.Spec PyProof.Rows L2
section
variable {P : Program} {w : World} {K : PySem.W.Frag} {mg : Str → Option Value} {base : Heap}
abbrev s__law_alike : Stmt := topS 15
abbrev N__law_alike : List Str := ["told", "due", "k"]
theorem sc__law_alike : FnScope N__law_alike ["told", "due"] (defScope s__law_alike) := ⟨rfl, rfl, rfl, by decide +kernel, rfl, by decide +kernel, by decide +kernel⟩
/-- two values of one worth are alike -/
def sp_alike (K : PySem.W.Frag) (n : Nat) : Sp := fun vs H Q _ => ∃ (G : Hp) (v u : V) (d : PyData), vs = [v, u] ∧ Ex G H ∧ Rp K G v d ∧ Rp K G u d ∧ Sm n d ∧ ∀ H', Ex H H' → Q (.bl true) H'
theorem c_alike {f : Addr} {fd : FuncData} (F : FnP K "_law_alike" s__law_alike f fd) (hm : mg "_law_alike" = some (.ref f)) (B : Blt mg) (n : Nat) : Cal P w K mg base (n + 1) "_law_alike" ["told", "due"] (sp_alike K n) := by
  induction n with
  | zero => exact cal_never F hm (fun _ _ _ _ _ _ _ us hl => match us, hl with | [_, _], _ => rfl) (fun vs H Q E h => by
      obtain ⟨_, _, _, _, _, _, _, _, h, _⟩ := h
      exact h)
  | succ n C__law_alike =>
  refine cal_of F hm sc__law_alike (fun _ _ _ _ _ _ _ us hl => match us, hl with | [_, _], _ => rfl) (fun vs H Q E h => ?_) (fun cdv A outer s H vs Q E hr h => ?_)
  · obtain ⟨_, _, _, _, rfl, _⟩ := h
    rfl
  · obtain ⟨G, v, u, d, rfl, eG, hv, hu, hd, q⟩ := h
    have nd := sc__law_alike.nd
    refine ⟨_, [some _, some _, none], ((pss_cons (ps_if (pt_val (pe_callB (call_isiTQ (K := K) rfl) (by rfl) B.isinstance_ bo_isinstance (pa_cons (pv 1) (pa_cons (pe_tup (pa_cons (pe_bty (by rfl) B.tuple_ bo_tuple) (pa_cons (pe_bty (by rfl) B.list_ bo_list) pa_nil))) pa_nil)))) (pss_cons (ps_if (PW.pt (pw_or (pt_cmpR (op_neK (K := K) rfl (hu64 hr)) (pe_callB (call_isiQ (K := K) rfl) (by rfl) B.isinstance_ bo_isinstance (pa_cons (pv 0) (pa_cons (pe_bty (by rfl) B.tuple_ bo_tuple) pa_nil))) (pe_callB (call_isiQ (K := K) rfl) (by rfl) B.isinstance_ bo_isinstance (pa_cons (pv 1) (pa_cons (pe_bty (by rfl) B.tuple_ bo_tuple) pa_nil))) (nomark _)) (pw_or1 (pt_cmpR (op_neK (K := K) rfl (hu64 hr)) (pe_callB (call_isiQ (K := K) rfl) (by rfl) B.isinstance_ bo_isinstance (pa_cons (pv 0) (pa_cons (pe_bty (by rfl) B.list_ bo_list) pa_nil))) (pe_callB (call_isiQ (K := K) rfl) (by rfl) B.isinstance_ bo_isinstance (pa_cons (pv 1) (pa_cons (pe_bty (by rfl) B.list_ bo_list) pa_nil))) (nomark _))))) (pss_one (ps_ret pe_bl)) pss_nil)
      (pss_cons (ps_if (pt_cmpR (op_neK (K := K) rfl (hu64 hr)) (pe_callB (call_lenK (K := K) rfl) (by rfl) B.len_ bo_len (pa_cons (pv 0) pa_nil)) (pe_callB (call_lenK (K := K) rfl) (by rfl) B.len_ bo_len (pa_cons (pv 1) pa_nil)) (nomark _)) (pss_one (ps_ret pe_bl)) pss_nil)
      (pss_cons (ps_for PassesOwn.never rfl (pi_range1 (by rfl) B.range_ (pa_cons (pe_callB (call_lenK (K := K) rfl) (by rfl) B.len_ bo_len (pa_cons (pv 1) pa_nil)) pa_nil)) (pg_name (i := 2) nd rfl (by first | exact Or.inl rfl | exact Or.inr rfl)) (pss_one (ps_if (pt_not (pt_val (pe_callC C__law_alike (hr.mono (by omega)) (by rfl) (pa_cons (pe_ix (ix_seqK (K := K) rfl) (pv 0) (pv 2) (fun _ _ => rfl)) (pa_cons (pe_ix (ix_seqK (K := K) rfl) (pv 1) (pv 2) (fun _ _ => rfl)) pa_nil))))) (pss_one (ps_ret pe_bl)) pss_nil)))
      (pss_one (ps_ret pe_bl))))) pss_nil)
      (pss_cons (ps_if (pt_cmpR op_isA (pv 1) pe_non (nomark _)) (pss_one (ps_ret (pe_cmpR op_isA (pv 0) pe_non (nomark _)))) pss_nil)
      (pss_cons (ps_if (pt_val (pe_callB (call_isiQ (K := K) rfl) (by rfl) B.isinstance_ bo_isinstance (pa_cons (pv 1) (pa_cons (pe_bty (by rfl) B.bool_ bo_bool) pa_nil)))) (pss_one (ps_ret (pe_and (pe_callB (call_isiQ (K := K) rfl) (by rfl) B.isinstance_ bo_isinstance (pa_cons (pv 0) (pa_cons (pe_bty (by rfl) B.bool_ bo_bool) pa_nil))) (pe_one (pe_cmpR (op_eqK (K := K) rfl (hu64 hr)) (pv 0) (pv 1) (nomark _)))))) pss_nil)
      (pss_cons (ps_if (pt_val (pe_callB (call_isiQ (K := K) rfl) (by rfl) B.isinstance_ bo_isinstance (pa_cons (pv 1) (pa_cons (pe_bty (by rfl) B.str_ bo_str) pa_nil)))) (pss_one (ps_ret (pe_and (pe_callB (call_isiQ (K := K) rfl) (by rfl) B.isinstance_ bo_isinstance (pa_cons (pv 0) (pa_cons (pe_bty (by rfl) B.str_ bo_str) pa_nil))) (pe_one (pe_cmpR (op_eqK (K := K) rfl (hu64 hr)) (pv 0) (pv 1) (nomark _)))))) pss_nil)
      (pss_one (ps_ret (pe_and (pe_callB (call_isiQ (K := K) rfl) (by rfl) B.isinstance_ bo_isinstance (pa_cons (pv 0) (pa_cons (pe_bty (by rfl) B.int_ bo_int) pa_nil))) (pe_and (pe_not (pe_callB (call_isiQ (K := K) rfl) (by rfl) B.isinstance_ bo_isinstance (pa_cons (pv 0) (pa_cons (pe_bty (by rfl) B.bool_ bo_bool) pa_nil)))) (pe_one (pe_cmpR (op_eqK (K := K) rfl (hu64 hr)) (pv 0) (pv 1) (nomark _)))))))))))), rfl, ?_⟩
    walk_at "q"
    cases d with
    | none =>
      cases hv
      cases hu
      walk_at "q"
      exact q_bt (by simp) (q _ (by walk_at "ex"))
    | bool b =>
      cases hv
      cases hu
      walk_at "q"
      exact q_bt (by simp) (q _ (by walk_at "ex"))
    | int i =>
      cases hv
      cases hu
      walk_at "q"
      exact q_bt (by simp) (q _ (by walk_at "ex"))
    | str x =>
      cases hv
      cases hu
      walk_at "q"
      exact q_bt (by simp) (q _ (by walk_at "ex"))
    | list ds =>
      walk_at "q"
      obtain ⟨hl, hd⟩ := hd
      refine q_rng1 ds.length hl (fun _ σ' H' => ∃ z, σ' = [some v, some u, z] ∧ Ex H H') ⟨_, rfl, by walk_at "ex"⟩ ?_ ?_
      · rintro i _ H' hi ⟨z, rfl, eH⟩
        walk_at "q"
        refine q_ixRL hv (by walk_at "ex") (atI_at hi) (fun v1 hv1 => ?_)
        walk_at "q"
        refine q_ixRL hu (by walk_at "ex") (atI_at hi) (fun u1 hu1 => ?_)
        walk_at "q"
        refine ⟨G, v1, u1, _, rfl, by walk_at "ex", hv1, hu1, hd _ (List.getElem_mem hi), fun H2 e2 => ?_⟩
        walk_at "q"
        exact ⟨_, rfl, by walk_at "ex"⟩
      · rintro _ H' ⟨z, rfl, eH⟩
        walk_at "q"
        exact q _ eH
    | tuple ds =>
      walk_at "q"
      obtain ⟨hl, hd⟩ := hd
      refine q_rng1 ds.length hl (fun _ σ' H' => ∃ z, σ' = [some v, some u, z] ∧ Ex H H') ⟨_, rfl, by walk_at "ex"⟩ ?_ ?_
      · rintro i _ H' hi ⟨z, rfl, eH⟩
        walk_at "q"
        refine q_ixRT hv (by walk_at "ex") (atI_at hi) (fun v1 hv1 => ?_)
        walk_at "q"
        refine q_ixRT hu (by walk_at "ex") (atI_at hi) (fun u1 hu1 => ?_)
        walk_at "q"
        refine ⟨G, v1, u1, _, rfl, by walk_at "ex", hv1, hu1, hd _ (List.getElem_mem hi), fun H2 e2 => ?_⟩
        walk_at "q"
        exact ⟨_, rfl, by walk_at "ex"⟩
      · rintro _ H' ⟨z, rfl, eH⟩
        walk_at "q"
        exact q _ eH
    | dict ds => exact (by cases hv)
end
end Cw

set_option maxHeartbeats 4000000
namespace Cw
open PySem PySem.Spec PyProof.Rows L2
section
variable {P : Program} {w : World} {K : PySem.W.Frag} {mg : Str → Option Value} {base : Heap}
abbrev s__law_box : Stmt := topS 13
abbrev N__law_box : List Str := ["script", "at", "cell"]
theorem sc__law_box : FnScope N__law_box ["script", "at"] (defScope s__law_box) := ⟨rfl, rfl, rfl, by decide +kernel, rfl, by decide +kernel, by decide +kernel⟩
/-- a new box over the script -/
def sp_box (K : PySem.W.Frag) : Sp := fun vs H Q _ => ∃ (s : Addr) (ns : List Int) (at_ : Int), vs = [.ref s, .int at_] ∧ SqL K H s (ns.map V.int) ∧ ns.length ≤ 1000 ∧
  ∀ c b, H c = none → upd H c (.lst (ns.map V.int)) b = none → Q (.ref b) (upd (upd H c (.lst (ns.map V.int))) b (.lst [.int 0, .int 0, .int at_, .int 0, .int at_, .ref c]))
theorem c_box {f : Addr} {fd : FuncData} (F : FnP K "_law_box" s__law_box f fd) (hm : mg "_law_box" = some (.ref f)) (B : Blt mg) : Cal P w K mg base 1 "_law_box" ["script", "at"] (sp_box K) := by
  refine cal_of F hm sc__law_box (fun _ _ _ _ _ _ _ us hl => match us, hl with | [_, _], _ => rfl) (fun vs H Q E h => ?_) (fun cdv A outer s H vs Q E hr h => ?_)
  · obtain ⟨_, _, _, rfl, _⟩ := h
    rfl
  · obtain ⟨sc, ns, at_, rfl, hS, hl, q⟩ := h
    have nd := sc__law_box.nd
    refine ⟨_, [some _, some _, none], ((pss_one (ps_ret (pe_lst (pa_cons pe_int (pa_cons pe_int (pa_cons (pv 1) (pa_cons pe_int (pa_cons (pv 1) (pa_cons (pe_lc (own := [("cell", 2)]) rfl nd (pi_seqK (K := K) rfl (pv 0)) (blkOk_by (N := N__law_box) (sc := defScope s__law_box) (by decide +kernel)) (fun _ _ _ _ _ => (pg_name (i := 2) nd rfl (by first | exact Or.inl rfl | exact Or.inr rfl))) (fun _ _ _ _ _ => pts_nil) (fun _ _ _ _ _ => (pe_callTy call_intA (by rfl) B.int_ bo_int (pa_cons (pv 2) pa_nil)))) pa_nil)))))))))), rfl, ?_⟩
    walk_at "q"
    refine q_lcL ?_
    walk_at "q"
    refine q_lst_lc hS (fun D hD => ⟨fun i H' => H' = upd H D (.lst ((ns.take i).map V.int)), rfl, ?_, ?_, ?_⟩)
    · rintro i H' hi rfl
      exact Ex.sl (Ex.new hD) hS
    · rintro i x H' hx rfl
      obtain ⟨n, hn, rfl⟩ : ∃ n, ns[i]? = some n ∧ x = V.int n := by
        rw [List.getElem?_map] at hx
        cases e : ns[i]? with
        | none =>
          rw [e] at hx
          cases hx
        | some n =>
          rw [e] at hx
          exact ⟨n, rfl, (Option.some.inj hx).symm⟩
      walk_at "q"
      refine ⟨rfl, ?_⟩
      walk_at "q"
      refine ⟨_, upd_same, line_lt ?_, ?_⟩
      · simp
        omega
      · rw [upd_upd]
        have e : (ns.take (i + 1)).map V.int = (ns.take i).map V.int ++ [V.int n] := by
          rw [List.take_add_one, hn]
          simp
        show L2.upd H D _ = L2.upd H D _
        rw [e]
    · rintro H' rfl
      rw [List.length_map, List.take_length]
      walk_at "q"
      exact q _ _ hD (by assumption)
abbrev s__law_text : Stmt := topS 16
abbrev N__law_text : List Str := ["box", "signs", "k"]
theorem sc__law_text : FnScope N__law_text ["box"] (defScope s__law_text) := ⟨rfl, rfl, rfl, by decide +kernel, rfl, by decide +kernel, by decide +kernel⟩
/-- a text drawn: any -/
def sp_text (K : PySem.W.Frag) : Sp := fun vs H Q _ => ∃ (G : Hp) (b : Addr) (xs : List V), vs = [.ref b] ∧ Ex G H ∧ G b = none ∧ H b = some (.lst xs) ∧ BoxL K G xs ∧
  ∀ (z : Str) (ys : List V) (H' : Hp), BoxL K G ys → Mut b H H' → H' b = some (.lst ys) → Q (.str z) H'
theorem c_text {f : Addr} {fd : FuncData} (F : FnP K "_law_text" s__law_text f fd) (hm : mg "_law_text" = some (.ref f)) (B : Blt mg) (C__law_draw : Cal P w K mg base 2 "_law_draw" ["box", "many"] (sp_draw K)) : Cal P w K mg base 3 "_law_text" ["box"] (sp_text K) := by
  refine cal_of F hm sc__law_text (fun _ _ _ _ _ _ _ us hl => match us, hl with | [_], _ => rfl) (fun vs H Q E h => ?_) (fun cdv A outer s H vs Q E hr h => ?_)
  · obtain ⟨_, _, _, rfl, _⟩ := h
    rfl
  · obtain ⟨G, b, xs, rfl, eG, gb, hb, hB, q⟩ := h
    have nd := sc__law_text.nd
    refine ⟨_, [some _, none, none], ((pss_cons (ps_if (pt_cmpR (op_eqK (K := K) rfl (hu64 hr)) (pe_callC C__law_draw (hr.mono (by omega)) (by rfl) (pa_cons (pv 0) (pa_cons pe_int pa_nil))) pe_int (nomark _)) (pss_one (ps_ret (pe_ix (ix_seqK (K := K) rfl) (pe_lst (pa_cons pe_str (pa_cons pe_str (pa_cons pe_str (pa_cons pe_str (pa_cons pe_str (pa_cons pe_str (pa_cons pe_str (pa_cons pe_str pa_nil))))))))) (pe_callC C__law_draw (hr.mono (by omega)) (by rfl) (pa_cons (pv 0) (pa_cons pe_int pa_nil))) (fun _ _ => rfl)))) pss_nil)
      (pss_cons (ps_set (i := 1) nd rfl (Or.inr rfl) pe_str)
      (pss_one (ps_ret (pe_joinK (K := K) rfl pe_str (pe_lc (own := [("k", 2)]) rfl nd (pi_range1 (by rfl) B.range_ (pa_cons (pe_op (op_addK (K := K) rfl) pe_int (pe_callC C__law_draw (hr.mono (by omega)) (by rfl) (pa_cons (pv 0) (pa_cons pe_int pa_nil)))) pa_nil)) (blkOk_by (N := N__law_text) (sc := defScope s__law_text) (by decide +kernel)) (fun _ _ _ _ _ => (pg_name (i := 2) nd rfl (by first | exact Or.inl rfl | exact Or.inr rfl))) (fun _ _ _ _ _ => pts_nil) (fun _ _ _ _ _ => (pe_ix (ix_seqK (K := K) rfl) (pv 1) (pe_callC C__law_draw (hr.mono (by omega)) (by rfl) (pa_cons (pv 0) (pa_cons pe_int pa_nil))) (fun _ _ => rfl)))))))))), rfl, ?_⟩
    walk_at "q"
    refine ⟨G, b, _, xs, rfl, eG, gb, hb, hB, by decide, fun r ys _ _ hB1 => ?_⟩
    have e1 : Ex G (L2.upd H b (.lst ys)) := Ex.mut eG gb
    walk_at "q"
    refine q_ifd (fun _ => ?_) (fun _ => ?_)
    · walk_at "q"
      have e2 := Ex.trans e1 (Ex.new (o := .lst [.str "cuts", .str "some", .str "none", .str "avoid", .str "always", .str "p", .str "", .str "abcdef"]) ‹_›)
      have n1 := ne_of_none (H := L2.upd H b (.lst ys)) upd_same ‹_›
      refine ⟨G, b, _, _, rfl, e2, gb, by rw [upd_ne n1]; exact upd_same, hB1, by decide, fun r2 ys2 h0 h1 hB2 => ?_⟩
      refine q_ixLn (xs := [.str "cuts", .str "some", .str "none", .str "avoid", .str "always", .str "p", .str "", .str "abcdef"]) (.inl (.inl (by rw [upd_ne (Ne.symm n1)]; exact upd_same))) h0 h1 (fun v hv => ?_)
      obtain ⟨z, rfl⟩ : ∃ z, v = V.str z := by
        simp only [List.mem_cons, List.mem_nil_iff, or_false] at hv
        rcases hv with rfl | rfl | rfl | rfl | rfl | rfl | rfl | rfl <;> exact ⟨_, rfl⟩
      exact q z ys2 _ hB2 (((Mut.refl b H).upd.new ‹_›).upd) upd_same
    · walk_at "q"
      refine ⟨⟨_, rfl⟩, ?_⟩
      walk_at "q"
      refine ⟨G, b, _, ys, rfl, e1, gb, upd_same, hB1, by decide, fun r2 ys2 h0 h1 hB2 => ?_⟩
      rw [upd_upd]
      walk_at "q"
      obtain ⟨m, rfl⟩ := Int.eq_ofNat_of_zero_le h0
      have em : (1 : Int) + (m : Int) = ((m + 1 : Nat) : Int) := by omega
      rw [em]
      refine q_rng_lc (m + 1) (by omega) (fun D hD => ?_)
      have n1 := ne_of_none (H := L2.upd H b (.lst ys2)) upd_same hD
      have hHD : H D = none := by
        rw [upd_ne (Ne.symm n1)] at hD
        exact hD
      refine ⟨fun i H' => ∃ zs : List Str, ∃ us, H' D = some (.lst (zs.map V.str)) ∧ zs.length = i ∧ (∀ z ∈ zs, z.length = 1) ∧ Mut b H H' ∧ H' b = some (.lst us) ∧ BoxL K G us, ?_, ?_, ?_⟩
      · exact ⟨[], ys2, upd_same, rfl, by simp, ((Mut.refl b H).upd).new hD, by rw [upd_ne n1]; exact upd_same, hB2⟩
      · rintro i H' hi ⟨zs, us, hz, hl, h1, hm, hb', hB'⟩
        walk_at "q"
        refine ⟨rfl, ?_⟩
        walk_at "q"
        refine ⟨G, b, _, us, rfl, eG.mu gb hm, gb, hb', hB', by decide, fun r3 ys3 h3 h4 hB3 => ?_⟩
        have e37 : (("abcdefghijklmnopqrstuvwxyz 0123456789" : Str)).length = 37 := by decide +kernel
        refine q_ixS (z := "abcdefghijklmnopqrstuvwxyz 0123456789") (by rw [e37]; decide) h3 (by rw [e37]; exact h4) (fun c => ?_)
        refine ⟨zs.map V.str, by rw [upd_ne (Ne.symm n1)]; exact hz, line_lt (by rw [List.length_map]; omega), zs ++ [⟨#[c]⟩], ys3, ?_, by rw [List.length_append, hl] <;> rfl, ?_, ?_, ?_, hB3⟩
        · rw [List.map_append]
          exact upd_same
        · intro z hz2
          rcases List.mem_append.mp hz2 with h | h
          · exact h1 z h
          · rw [List.mem_singleton.mp h] <;> rfl
        · exact hm.upd.acc hHD
        · rw [upd_ne n1]
          exact upd_same
      · rintro H' ⟨zs, us, hz, hl, h1, hm, hb', hB'⟩
        refine q_join (.inl (.inl hz)) ?_ ?_
        · rw [sum_ones h1, hl]
          show _ + _ * 0 ≤ _
          omega
        · exact q _ us H' hB' hm hb'
end
end Cw

set_option maxHeartbeats 4000000
namespace Cw
open PySem PySem.Spec PyProof.Rows L2
/-! ### the nine classes -/
def nmE : Nat → Str
  | 0 => "BadValue"
  | 1 => "BadNet"
  | 2 => "BadStep"
  | 3 => "BadCut"
  | 4 => "BadClaim"
  | 5 => "BadPaper"
  | 6 => "BadLine"
  | 7 => "TooMany"
  | _ => "NothingThere"
def flE : Nat → Str
  | 7 => "word"
  | 8 => "name"
  | _ => "at"
structure Er (K : PySem.W.Frag) (mg : Str → Option Value) (CL : Nat → Addr) (Z : Addr) : Prop where
  x : ∀ i, i < 9 → Xn K mg (nmE i) (flE i) (CL i)
  m : ∀ i j, i < 9 → j < 9 → PySem.W.exmOne K (.ref (CL i)) (.ref (CL j)) = some (decide (i = j))
  mZ : ∀ i, i < 9 → PySem.W.exmOne K (.ref (CL i)) (.ref Z) = some true
  k : ∀ i j, i < 9 → j < 9 → PySem.W.kitOne K (.ref (CL i)) (.ref (CL j)) = some (decide (i = j))
  kZ : ∀ i, i < 9 → PySem.W.kitOne K (.ref (CL i)) (.ref Z) = some true
  kE : ∀ i, i < 9 → PySem.W.kitOne K (.ref (CL i)) (.type "Exception") = some true
  kV : ∀ i, i < 9 → PySem.W.kitOne K (.ref (CL i)) (.type "ValueError") = some false
  z : mg "CutError" = some (.ref Z)
section
variable {P : Program} {w : World} {K : PySem.W.Frag} {mg : Str → Option Value} {base : Heap} {CL : Nat → Addr} {Z : Addr}
abbrev s__law_raise : Stmt := topS 20
abbrev N__law_raise : List Str := ["kind", "at", "word"]
theorem sc__law_raise : FnScope N__law_raise ["kind", "at", "word"] (defScope s__law_raise) := ⟨rfl, rfl, rfl, by decide +kernel, rfl, by decide +kernel, by decide +kernel⟩
def ofE (j : Nat) (a b : V) : V := if j < 7 then a else b
def sp_raise (CL : Nat → Addr) : Sp := fun vs H Q E => ∃ (j : Nat) (a b : V), vs = [.int j, a, b] ∧ j < 9 ∧ ∀ d, H d = none → E (.ref (CL j)) (some d) (upd H d (.xd [(flE j, ofE j a b)]))
theorem c_raise {f : Addr} {fd : FuncData} (F : FnP K "_law_raise" s__law_raise f fd) (hm : mg "_law_raise" = some (.ref f)) (B : Blt mg) (er : Er K mg CL Z) : CalX P w K mg base 3 "_law_raise" ["kind", "at", "word"] (sp_raise CL) := by
  have T_BadValue : Xn K mg "BadValue" "at" (CL 0) := er.x 0 (by decide)
  have T_BadNet : Xn K mg "BadNet" "at" (CL 1) := er.x 1 (by decide)
  have T_BadStep : Xn K mg "BadStep" "at" (CL 2) := er.x 2 (by decide)
  have T_BadCut : Xn K mg "BadCut" "at" (CL 3) := er.x 3 (by decide)
  have T_BadClaim : Xn K mg "BadClaim" "at" (CL 4) := er.x 4 (by decide)
  have T_BadPaper : Xn K mg "BadPaper" "at" (CL 5) := er.x 5 (by decide)
  have T_BadLine : Xn K mg "BadLine" "at" (CL 6) := er.x 6 (by decide)
  have T_TooMany : Xn K mg "TooMany" "word" (CL 7) := er.x 7 (by decide)
  have T_NothingThere : Xn K mg "NothingThere" "name" (CL 8) := er.x 8 (by decide)
  refine calX_of F hm sc__law_raise (fun _ _ _ _ _ _ _ us hl => match us, hl with | [_, _, _], _ => rfl) (fun vs H Q E h => ?_) (fun cdv A outer s H vs Q E hr h => ?_)
  · obtain ⟨_, _, _, rfl, _⟩ := h
    rfl
  · obtain ⟨j, a, b, rfl, hj, q⟩ := h
    have nd := sc__law_raise.nd
    refine ⟨_, [some _, some _, some _], ((pss_cons (ps_if (pt_cmpR (op_eqK (K := K) rfl (hu64 hr)) (pv 0) pe_int (nomark _)) (pss_one (ps_raiseX rfl T_BadValue hr (takes_of rfl rfl rfl rfl) (pa_cons (pv 1) pa_nil) (by rfl))) pss_nil)
      (pss_cons (ps_if (pt_cmpR (op_eqK (K := K) rfl (hu64 hr)) (pv 0) pe_int (nomark _)) (pss_one (ps_raiseX rfl T_BadNet hr (takes_of rfl rfl rfl rfl) (pa_cons (pv 1) pa_nil) (by rfl))) pss_nil)
      (pss_cons (ps_if (pt_cmpR (op_eqK (K := K) rfl (hu64 hr)) (pv 0) pe_int (nomark _)) (pss_one (ps_raiseX rfl T_BadStep hr (takes_of rfl rfl rfl rfl) (pa_cons (pv 1) pa_nil) (by rfl))) pss_nil)
      (pss_cons (ps_if (pt_cmpR (op_eqK (K := K) rfl (hu64 hr)) (pv 0) pe_int (nomark _)) (pss_one (ps_raiseX rfl T_BadCut hr (takes_of rfl rfl rfl rfl) (pa_cons (pv 1) pa_nil) (by rfl))) pss_nil)
      (pss_cons (ps_if (pt_cmpR (op_eqK (K := K) rfl (hu64 hr)) (pv 0) pe_int (nomark _)) (pss_one (ps_raiseX rfl T_BadClaim hr (takes_of rfl rfl rfl rfl) (pa_cons (pv 1) pa_nil) (by rfl))) pss_nil)
      (pss_cons (ps_if (pt_cmpR (op_eqK (K := K) rfl (hu64 hr)) (pv 0) pe_int (nomark _)) (pss_one (ps_raiseX rfl T_BadPaper hr (takes_of rfl rfl rfl rfl) (pa_cons (pv 1) pa_nil) (by rfl))) pss_nil)
      (pss_cons (ps_if (pt_cmpR (op_eqK (K := K) rfl (hu64 hr)) (pv 0) pe_int (nomark _)) (pss_one (ps_raiseX rfl T_BadLine hr (takes_of rfl rfl rfl rfl) (pa_cons (pv 1) pa_nil) (by rfl))) pss_nil)
      (pss_cons (ps_if (pt_cmpR (op_eqK (K := K) rfl (hu64 hr)) (pv 0) pe_int (nomark _)) (pss_one (ps_raiseX rfl T_TooMany hr (takes_of rfl rfl rfl rfl) (pa_cons (pv 2) pa_nil) (by rfl))) pss_nil)
      (pss_one (ps_raiseX rfl T_NothingThere hr (takes_of rfl rfl rfl rfl) (pa_cons (pv 2) pa_nil) (by rfl)))))))))))), rfl, ?_⟩
    match j, hj, q with
    | 0, _, q => walk_at "q"; exact q
    | 1, _, q => walk_at "q"; exact q
    | 2, _, q => walk_at "q"; exact q
    | 3, _, q => walk_at "q"; exact q
    | 4, _, q => walk_at "q"; exact q
    | 5, _, q => walk_at "q"; exact q
    | 6, _, q => walk_at "q"; exact q
    | 7, _, q => walk_at "q"; exact q
    | 8, _, q => walk_at "q"; exact q
    | n + 9, hj, _ => omega
end
end Cw

set_option maxHeartbeats 4000000
namespace Cw
open PySem PySem.Spec PyProof.Rows L2
section
variable {P : Program} {w : World} {K : PySem.W.Frag} {mg : Str → Option Value} {base : Heap} {CL : Nat → Addr} {Z : Addr}
abbrev s__law_caught : Stmt := topS 21
abbrev N__law_caught : List Str := ["kind", "at", "word", "e"]
theorem sc__law_caught : FnScope N__law_caught ["kind", "at", "word"] (defScope s__law_caught) := ⟨rfl, rfl, rfl, by decide +kernel, rfl, by decide +kernel, by decide +kernel⟩
def sp_caught : Sp := fun vs H Q _ => ∃ (j : Nat) (a b : V), vs = [.int j, a, b] ∧ j < 9 ∧ ∀ H' p, Ex H H' → H' p = some (.tup [.int j, ofE j a b]) → Q (.ref p) H'
theorem c_caught {f : Addr} {fd : FuncData} (F : FnP K "_law_caught" s__law_caught f fd) (hm : mg "_law_caught" = some (.ref f)) (B : Blt mg) (er : Er K mg CL Z) (C__law_raise : CalX P w K mg base 3 "_law_raise" ["kind", "at", "word"] (sp_raise CL)) :
    Cal P w K mg base 4 "_law_caught" ["kind", "at", "word"] sp_caught := by
  have T_BadValue : Xn K mg "BadValue" "at" (CL 0) := er.x 0 (by decide)
  have m_BadValue := T_BadValue.1
  have T_BadNet : Xn K mg "BadNet" "at" (CL 1) := er.x 1 (by decide)
  have m_BadNet := T_BadNet.1
  have T_BadStep : Xn K mg "BadStep" "at" (CL 2) := er.x 2 (by decide)
  have m_BadStep := T_BadStep.1
  have T_BadCut : Xn K mg "BadCut" "at" (CL 3) := er.x 3 (by decide)
  have m_BadCut := T_BadCut.1
  have T_BadClaim : Xn K mg "BadClaim" "at" (CL 4) := er.x 4 (by decide)
  have m_BadClaim := T_BadClaim.1
  have T_BadPaper : Xn K mg "BadPaper" "at" (CL 5) := er.x 5 (by decide)
  have m_BadPaper := T_BadPaper.1
  have T_BadLine : Xn K mg "BadLine" "at" (CL 6) := er.x 6 (by decide)
  have m_BadLine := T_BadLine.1
  have T_TooMany : Xn K mg "TooMany" "word" (CL 7) := er.x 7 (by decide)
  have m_TooMany := T_TooMany.1
  have T_NothingThere : Xn K mg "NothingThere" "name" (CL 8) := er.x 8 (by decide)
  have m_NothingThere := T_NothingThere.1
  have m_CutError := er.z
  refine cal_of F hm sc__law_caught (fun _ _ _ _ _ _ _ us hl => match us, hl with | [_, _, _], _ => rfl) (fun vs H Q E h => ?_) (fun cdv A outer s H vs Q E hr h => ?_)
  · obtain ⟨_, _, _, rfl, _⟩ := h
    rfl
  · obtain ⟨j, a, b, rfl, hj, q⟩ := h
    have nd := sc__law_caught.nd
    refine ⟨_, [some _, some _, some _, none], ((pss_cons (ps_tryK (K := K) rfl rfl rfl takes0 (fun W pn xe tk _ => (pss_one (ps_expr (pe_callXC C__law_raise (hr.mono (by omega)) (by rfl) (fun σ => passAt tk σ) (pa_cons (pv 0) (pa_cons (pv 1) (pa_cons (pv 2) pa_nil)))))))
      (HdsA.as_ (i := 3) ⟨by rfl, by decide, Or.inl m_NothingThere⟩ nd rfl (by rfl) (fun a oe cls d pn hz hf => (pss_one (ps_ret (pe_tup (pa_cons pe_int (pa_cons (pe_xf T_NothingThere.xf.1 T_NothingThere.xf.2 hz hf (pv 3)) pa_nil))))))
      (HdsA.as_ (i := 3) ⟨by rfl, by decide, Or.inl m_TooMany⟩ nd rfl (by rfl) (fun a oe cls d pn hz hf => (pss_one (ps_ret (pe_tup (pa_cons pe_int (pa_cons (pe_xf T_TooMany.xf.1 T_TooMany.xf.2 hz hf (pv 3)) pa_nil))))))
      (HdsA.as_ (i := 3) ⟨by rfl, by decide, Or.inl m_BadLine⟩ nd rfl (by rfl) (fun a oe cls d pn hz hf => (pss_one (ps_ret (pe_tup (pa_cons pe_int (pa_cons (pe_xf T_BadLine.xf.1 T_BadLine.xf.2 hz hf (pv 3)) pa_nil))))))
      (HdsA.as_ (i := 3) ⟨by rfl, by decide, Or.inl m_BadPaper⟩ nd rfl (by rfl) (fun a oe cls d pn hz hf => (pss_one (ps_ret (pe_tup (pa_cons pe_int (pa_cons (pe_xf T_BadPaper.xf.1 T_BadPaper.xf.2 hz hf (pv 3)) pa_nil))))))
      (HdsA.as_ (i := 3) ⟨by rfl, by decide, Or.inl m_BadClaim⟩ nd rfl (by rfl) (fun a oe cls d pn hz hf => (pss_one (ps_ret (pe_tup (pa_cons pe_int (pa_cons (pe_xf T_BadClaim.xf.1 T_BadClaim.xf.2 hz hf (pv 3)) pa_nil))))))
      (HdsA.as_ (i := 3) ⟨by rfl, by decide, Or.inl m_BadCut⟩ nd rfl (by rfl) (fun a oe cls d pn hz hf => (pss_one (ps_ret (pe_tup (pa_cons pe_int (pa_cons (pe_xf T_BadCut.xf.1 T_BadCut.xf.2 hz hf (pv 3)) pa_nil))))))
      (HdsA.as_ (i := 3) ⟨by rfl, by decide, Or.inl m_BadStep⟩ nd rfl (by rfl) (fun a oe cls d pn hz hf => (pss_one (ps_ret (pe_tup (pa_cons pe_int (pa_cons (pe_xf T_BadStep.xf.1 T_BadStep.xf.2 hz hf (pv 3)) pa_nil))))))
      (HdsA.as_ (i := 3) ⟨by rfl, by decide, Or.inl m_BadNet⟩ nd rfl (by rfl) (fun a oe cls d pn hz hf => (pss_one (ps_ret (pe_tup (pa_cons pe_int (pa_cons (pe_xf T_BadNet.xf.1 T_BadNet.xf.2 hz hf (pv 3)) pa_nil))))))
      (HdsA.as_ (i := 3) ⟨by rfl, by decide, Or.inl m_BadValue⟩ nd rfl (by rfl) (fun a oe cls d pn hz hf => (pss_one (ps_ret (pe_tup (pa_cons pe_int (pa_cons (pe_xf T_BadValue.xf.1 T_BadValue.xf.2 hz hf (pv 3)) pa_nil))))))
      HdsA.nil))))))))))
      (pss_one (ps_ret (pe_tup (pa_cons pe_int (pa_cons pe_non pa_nil))))))), rfl, ?_⟩
    walk_at "q"
    refine ⟨j, a, b, rfl, hj, fun d hd => ?_⟩
    match j, hj, q with
    | n + 9, hj, _ => omega
    | 0, _, q => refine q_wN (er.m 0 8 (by decide) (by decide)) ?_; refine q_wN (er.m 0 7 (by decide) (by decide)) ?_; refine q_wN (er.m 0 6 (by decide) (by decide)) ?_; refine q_wN (er.m 0 5 (by decide) (by decide)) ?_; refine q_wN (er.m 0 4 (by decide) (by decide)) ?_; refine q_wN (er.m 0 3 (by decide) (by decide)) ?_; refine q_wN (er.m 0 2 (by decide) (by decide)) ?_; refine q_wN (er.m 0 1 (by decide) (by decide)) ?_; skip; refine q_wY (er.m 0 0 (by decide) (by decide)) (fun e he => ?_); walk_at "q"; exact q _ _ (by walk_at "ex") upd_same
    | 1, _, q => refine q_wN (er.m 1 8 (by decide) (by decide)) ?_; refine q_wN (er.m 1 7 (by decide) (by decide)) ?_; refine q_wN (er.m 1 6 (by decide) (by decide)) ?_; refine q_wN (er.m 1 5 (by decide) (by decide)) ?_; refine q_wN (er.m 1 4 (by decide) (by decide)) ?_; refine q_wN (er.m 1 3 (by decide) (by decide)) ?_; refine q_wN (er.m 1 2 (by decide) (by decide)) ?_; skip; refine q_wY (er.m 1 1 (by decide) (by decide)) (fun e he => ?_); walk_at "q"; exact q _ _ (by walk_at "ex") upd_same
    | 2, _, q => refine q_wN (er.m 2 8 (by decide) (by decide)) ?_; refine q_wN (er.m 2 7 (by decide) (by decide)) ?_; refine q_wN (er.m 2 6 (by decide) (by decide)) ?_; refine q_wN (er.m 2 5 (by decide) (by decide)) ?_; refine q_wN (er.m 2 4 (by decide) (by decide)) ?_; refine q_wN (er.m 2 3 (by decide) (by decide)) ?_; skip; refine q_wY (er.m 2 2 (by decide) (by decide)) (fun e he => ?_); walk_at "q"; exact q _ _ (by walk_at "ex") upd_same
    | 3, _, q => refine q_wN (er.m 3 8 (by decide) (by decide)) ?_; refine q_wN (er.m 3 7 (by decide) (by decide)) ?_; refine q_wN (er.m 3 6 (by decide) (by decide)) ?_; refine q_wN (er.m 3 5 (by decide) (by decide)) ?_; refine q_wN (er.m 3 4 (by decide) (by decide)) ?_; skip; refine q_wY (er.m 3 3 (by decide) (by decide)) (fun e he => ?_); walk_at "q"; exact q _ _ (by walk_at "ex") upd_same
    | 4, _, q => refine q_wN (er.m 4 8 (by decide) (by decide)) ?_; refine q_wN (er.m 4 7 (by decide) (by decide)) ?_; refine q_wN (er.m 4 6 (by decide) (by decide)) ?_; refine q_wN (er.m 4 5 (by decide) (by decide)) ?_; skip; refine q_wY (er.m 4 4 (by decide) (by decide)) (fun e he => ?_); walk_at "q"; exact q _ _ (by walk_at "ex") upd_same
    | 5, _, q => refine q_wN (er.m 5 8 (by decide) (by decide)) ?_; refine q_wN (er.m 5 7 (by decide) (by decide)) ?_; refine q_wN (er.m 5 6 (by decide) (by decide)) ?_; skip; refine q_wY (er.m 5 5 (by decide) (by decide)) (fun e he => ?_); walk_at "q"; exact q _ _ (by walk_at "ex") upd_same
    | 6, _, q => refine q_wN (er.m 6 8 (by decide) (by decide)) ?_; refine q_wN (er.m 6 7 (by decide) (by decide)) ?_; skip; refine q_wY (er.m 6 6 (by decide) (by decide)) (fun e he => ?_); walk_at "q"; exact q _ _ (by walk_at "ex") upd_same
    | 7, _, q => refine q_wN (er.m 7 8 (by decide) (by decide)) ?_; skip; refine q_wY (er.m 7 7 (by decide) (by decide)) (fun e he => ?_); walk_at "q"; exact q _ _ (by walk_at "ex") upd_same
    | 8, _, q => skip; refine q_wY (er.m 8 8 (by decide) (by decide)) (fun e he => ?_); walk_at "q"; exact q _ _ (by walk_at "ex") upd_same
abbrev s__law_beneath : Stmt := topS 22
abbrev N__law_beneath : List Str := ["kind", "at", "word"]
theorem sc__law_beneath : FnScope N__law_beneath ["kind", "at", "word"] (defScope s__law_beneath) := ⟨rfl, rfl, rfl, by decide +kernel, rfl, by decide +kernel, by decide +kernel⟩
def sp_beneath : Sp := fun vs H Q _ => ∃ (j : Nat) (a b : V), vs = [.int j, a, b] ∧ j < 9 ∧ ∀ H', Ex H H' → Q (.bl true) H'
theorem c_beneath {f : Addr} {fd : FuncData} (F : FnP K "_law_beneath" s__law_beneath f fd) (hm : mg "_law_beneath" = some (.ref f)) (B : Blt mg) (er : Er K mg CL Z) (C__law_raise : CalX P w K mg base 3 "_law_raise" ["kind", "at", "word"] (sp_raise CL)) :
    Cal P w K mg base 4 "_law_beneath" ["kind", "at", "word"] sp_beneath := by
  have m_CutError := er.z
  refine cal_of F hm sc__law_beneath (fun _ _ _ _ _ _ _ us hl => match us, hl with | [_, _, _], _ => rfl) (fun vs H Q E h => ?_) (fun cdv A outer s H vs Q E hr h => ?_)
  · obtain ⟨_, _, _, rfl, _⟩ := h
    rfl
  · obtain ⟨j, a, b, rfl, hj, q⟩ := h
    have nd := sc__law_beneath.nd
    refine ⟨_, [some _, some _, some _], ((pss_cons (ps_tryK (K := K) rfl rfl rfl takes0 (fun W pn xe tk _ => (pss_one (ps_expr (pe_callXC C__law_raise (hr.mono (by omega)) (by rfl) (fun σ => passAt tk σ) (pa_cons (pv 0) (pa_cons (pv 1) (pa_cons (pv 2) pa_nil)))))))
      (HdsA.bare ⟨by rfl, by decide, Or.inl m_CutError⟩ (fun a oe cls d pn hz hf => (pss_one (ps_ret pe_bl)))
      HdsA.nil))
      (pss_one (ps_ret pe_bl)))), rfl, ?_⟩
    walk_at "q"
    refine ⟨j, a, b, rfl, hj, fun d hd => ?_⟩
    refine q_wY (er.mZ j hj) (fun e he => ?_)
    walk_at "q"
    exact q _ (by walk_at "ex")
end
end Cw

set_option maxHeartbeats 4000000
namespace Cw
open PySem PySem.Spec PyProof.Rows L2
section
variable {P : Program} {w : World} {K : PySem.W.Frag} {mg : Str → Option Value} {base : Heap} {CL : Nat → Addr} {Z : Addr}
abbrev s__law_alone : Stmt := topS 17
abbrev N__law_alone : List Str := ["made", "kind", "kinds", "k"]
theorem sc__law_alone : FnScope N__law_alone ["made", "kind"] (defScope s__law_alone) := ⟨rfl, rfl, rfl, by decide +kernel, rfl, by decide +kernel, by decide +kernel⟩
def sp_alone (CL : Nat → Addr) : Sp := fun vs H Q _ => ∃ (j : Nat) (a d : Addr) (v : V), vs = [.ref a, .int j] ∧ j < 9 ∧ H a = some (ExH (CL j) d a) ∧ H d = some (.xd [(flE j, v)]) ∧ ∀ H', Ex H H' → Q (.bl true) H'
theorem c_alone {f : Addr} {fd : FuncData} (F : FnP K "_law_alone" s__law_alone f fd) (hm : mg "_law_alone" = some (.ref f)) (B : Blt mg) (er : Er K mg CL Z) :
    Cal P w K mg base 1 "_law_alone" ["made", "kind"] (sp_alone CL) := by
  have T_BadValue : Xn K mg "BadValue" "at" (CL 0) := er.x 0 (by decide)
  have m_BadValue := T_BadValue.1
  have T_BadNet : Xn K mg "BadNet" "at" (CL 1) := er.x 1 (by decide)
  have m_BadNet := T_BadNet.1
  have T_BadStep : Xn K mg "BadStep" "at" (CL 2) := er.x 2 (by decide)
  have m_BadStep := T_BadStep.1
  have T_BadCut : Xn K mg "BadCut" "at" (CL 3) := er.x 3 (by decide)
  have m_BadCut := T_BadCut.1
  have T_BadClaim : Xn K mg "BadClaim" "at" (CL 4) := er.x 4 (by decide)
  have m_BadClaim := T_BadClaim.1
  have T_BadPaper : Xn K mg "BadPaper" "at" (CL 5) := er.x 5 (by decide)
  have m_BadPaper := T_BadPaper.1
  have T_BadLine : Xn K mg "BadLine" "at" (CL 6) := er.x 6 (by decide)
  have m_BadLine := T_BadLine.1
  have T_TooMany : Xn K mg "TooMany" "word" (CL 7) := er.x 7 (by decide)
  have m_TooMany := T_TooMany.1
  have T_NothingThere : Xn K mg "NothingThere" "name" (CL 8) := er.x 8 (by decide)
  have m_NothingThere := T_NothingThere.1
  have m_CutError := er.z
  refine cal_of F hm sc__law_alone (fun _ _ _ _ _ _ _ us hl => match us, hl with | [_, _], _ => rfl) (fun vs H Q E h => ?_) (fun cdv A outer s H vs Q E hr h => ?_)
  · obtain ⟨_, _, _, _, rfl, _⟩ := h
    rfl
  · obtain ⟨j, a, d, v, rfl, hj, ha, hd, q⟩ := h
    have nd := sc__law_alone.nd
    have T := er.x j hj
    refine ⟨_, [some _, some _, none, none], ((pss_cons (ps_set (i := 2) nd rfl (Or.inl rfl) (pe_lst (pa_cons (pe_callB (call_isXK (K := K) rfl) (by rfl) B.isinstance_ bo_isinstance (pa_cons (pv 0) (pa_cons (pe_gref (by rfl) m_BadValue) pa_nil))) (pa_cons (pe_callB (call_isXK (K := K) rfl) (by rfl) B.isinstance_ bo_isinstance (pa_cons (pv 0) (pa_cons (pe_gref (by rfl) m_BadNet) pa_nil))) (pa_cons (pe_callB (call_isXK (K := K) rfl) (by rfl) B.isinstance_ bo_isinstance (pa_cons (pv 0) (pa_cons (pe_gref (by rfl) m_BadStep) pa_nil))) pa_nil)))))
      (pss_cons (ps_set (i := 2) nd rfl (Or.inl rfl) (pe_op (op_addK (K := K) rfl) (pv 2) (pe_lst (pa_cons (pe_callB (call_isXK (K := K) rfl) (by rfl) B.isinstance_ bo_isinstance (pa_cons (pv 0) (pa_cons (pe_gref (by rfl) m_BadCut) pa_nil))) (pa_cons (pe_callB (call_isXK (K := K) rfl) (by rfl) B.isinstance_ bo_isinstance (pa_cons (pv 0) (pa_cons (pe_gref (by rfl) m_BadClaim) pa_nil))) (pa_cons (pe_callB (call_isXK (K := K) rfl) (by rfl) B.isinstance_ bo_isinstance (pa_cons (pv 0) (pa_cons (pe_gref (by rfl) m_BadPaper) pa_nil))) pa_nil))))))
      (pss_cons (ps_set (i := 2) nd rfl (Or.inl rfl) (pe_op (op_addK (K := K) rfl) (pv 2) (pe_lst (pa_cons (pe_callB (call_isXK (K := K) rfl) (by rfl) B.isinstance_ bo_isinstance (pa_cons (pv 0) (pa_cons (pe_gref (by rfl) m_BadLine) pa_nil))) (pa_cons (pe_callB (call_isXK (K := K) rfl) (by rfl) B.isinstance_ bo_isinstance (pa_cons (pv 0) (pa_cons (pe_gref (by rfl) m_TooMany) pa_nil))) (pa_cons (pe_callB (call_isXK (K := K) rfl) (by rfl) B.isinstance_ bo_isinstance (pa_cons (pv 0) (pa_cons (pe_gref (by rfl) m_NothingThere) pa_nil))) pa_nil))))))
      (pss_cons (ps_for PassesOwn.never rfl (pi_range1 (by rfl) B.range_ (pa_cons pe_int pa_nil)) (pg_name (i := 3) nd rfl (by first | exact Or.inl rfl | exact Or.inr rfl)) (pss_one (ps_if (pt_cmpR (op_neK (K := K) rfl (hu64 hr)) (pe_ix (ix_seqK (K := K) rfl) (pv 2) (pv 3) (fun _ _ => rfl)) (pe_cmpR (op_eqK (K := K) rfl (hu64 hr)) (pv 3) (pv 1) (nomark _)) (nomark _)) (pss_one (ps_ret pe_bl)) pss_nil)))
      (pss_one (ps_ret (pe_and (pe_callB (call_isXK (K := K) rfl) (by rfl) B.isinstance_ bo_isinstance (pa_cons (pv 0) (pa_cons (pe_gref (by rfl) m_CutError) pa_nil))) (pe_and (pe_callB (call_isXK (K := K) rfl) (by rfl) B.isinstance_ bo_isinstance (pa_cons (pv 0) (pa_cons (pe_bty (by rfl) B.Exception_ bo_Exception) pa_nil))) (pe_one (pe_not (pe_callB (call_isXK (K := K) rfl) (by rfl) B.isinstance_ bo_isinstance (pa_cons (pv 0) (pa_cons (pe_bty (by rfl) B.ValueError_ bo_ValueError) pa_nil)))))))))))))), rfl, ?_⟩
    walk_at "q"
    refine q_isXe T ha hd (by walk_at "ex") (.own _) (er.k j 0 hj (by decide)) ?_
    walk_at "q"
    refine q_isXe T ha hd (by walk_at "ex") (.own _) (er.k j 1 hj (by decide)) ?_
    walk_at "q"
    refine q_isXe T ha hd (by walk_at "ex") (.own _) (er.k j 2 hj (by decide)) ?_
    walk_at "q"
    refine q_isXe T ha hd (by walk_at "ex") (.own _) (er.k j 3 hj (by decide)) ?_
    walk_at "q"
    refine q_isXe T ha hd (by walk_at "ex") (.own _) (er.k j 4 hj (by decide)) ?_
    walk_at "q"
    refine q_isXe T ha hd (by walk_at "ex") (.own _) (er.k j 5 hj (by decide)) ?_
    walk_at "q"
    refine q_isXe T ha hd (by walk_at "ex") (.own _) (er.k j 6 hj (by decide)) ?_
    walk_at "q"
    refine q_isXe T ha hd (by walk_at "ex") (.own _) (er.k j 7 hj (by decide)) ?_
    walk_at "q"
    refine q_isXe T ha hd (by walk_at "ex") (.own _) (er.k j 8 hj (by decide)) ?_
    walk_at "q"
    rename_i p hp
    have hL : ∀ i : Nat, i < 9 → atI [V.bl (decide (j = 0)), V.bl (decide (j = 1)), V.bl (decide (j = 2)), V.bl (decide (j = 3)), V.bl (decide (j = 4)), V.bl (decide (j = 5)), V.bl (decide (j = 6)), V.bl (decide (j = 7)), V.bl (decide (j = 8))] (i : Int) = some (.bl (decide (j = i))) := fun i hi => by
      obtain rfl | rfl | rfl | rfl | rfl | rfl | rfl | rfl | rfl : i = 0 ∨ i = 1 ∨ i = 2 ∨ i = 3 ∨ i = 4 ∨ i = 5 ∨ i = 6 ∨ i = 7 ∨ i = 8 := by omega
      all_goals rfl
    refine q_rng1 9 (by decide) (fun _ σ' H' => ∃ z, σ' = [some (.ref a), some (.int j), some (.ref p), z] ∧ Ex H H' ∧ H' p = some (.lst [V.bl (decide (j = 0)), V.bl (decide (j = 1)), V.bl (decide (j = 2)), V.bl (decide (j = 3)), V.bl (decide (j = 4)), V.bl (decide (j = 5)), V.bl (decide (j = 6)), V.bl (decide (j = 7)), V.bl (decide (j = 8))])) ⟨none, rfl, by walk_at "ex", upd_same⟩ ?_ ?_
    · rintro i _ H' hi ⟨z, rfl, e, h9⟩
      walk_at "q"
      refine q_ixC h9 (hL i hi) ?_
      walk_at "q"
      refine q_ifFa ?_ ?_
      · by_cases z : j = i
        · subst z
          simp
        · have z2 : ¬ (i : Int) = (j : Int) := fun y => z (Int.ofNat.inj y).symm
          simp [z, z2]
      · walk_at "q"
        exact ⟨_, rfl, e, h9⟩
    · rintro _ H' ⟨z, rfl, e, h9⟩
      walk_at "q"
      refine q_isXe T ha hd e (.own _) (er.kZ j hj) ?_
      walk_at "q"
      refine q_isXe T ha hd e (.ty _) (er.kE j hj) ?_
      walk_at "q"
      refine q_isXe T ha hd e (.ty _) (er.kV j hj) ?_
      walk_at "q"
      exact q _ e
end
end Cw

set_option maxHeartbeats 4000000
namespace Cw
open PySem PySem.Spec PyProof.Rows L2
section
variable {P : Program} {w : World} {K : PySem.W.Frag} {mg : Str → Option Value} {base : Heap} {CL : Nat → Addr} {Z : Addr}
/-- seven errors in a row, with the same argument -/
def Fam (CL : Nat → Addr) (G : Hp) (L : List V) (v : V) : Prop := ∀ i : Nat, i < 7 → ∃ e d, atI L (i : Int) = some (.ref e) ∧ G e = some (ExH (CL i) d e) ∧ G d = some (.xd [(flE i, v)])
theorem Fam.mono {G G' : Hp} {L : List V} {v : V} (h : Fam CL G L v) (x : Ex G G') : Fam CL G' L v := fun i hi => by
  obtain ⟨e, d, h1, h2, h3⟩ := h i hi
  exact ⟨e, d, h1, x _ _ h2, x _ _ h3⟩
theorem Fam.mu {G : Hp} {L xs ys : List V} {v : V} {p : Addr} (h : Fam CL G L v) (hp : G p = some (.lst xs)) : Fam CL (L2.upd G p (.lst ys)) L v := fun i hi => by
  obtain ⟨e, d, h1, h2, h3⟩ := h i hi
  exact ⟨e, d, h1, upd_mu h2 (ne_of h2 hp (fun z => nomatch z)), upd_mu h3 (ne_of h3 hp (fun z => nomatch z))⟩
theorem flE_at {i : Nat} (h : i < 7) : flE i = "at" := by
  obtain rfl | rfl | rfl | rfl | rfl | rfl | rfl : i = 0 ∨ i = 1 ∨ i = 2 ∨ i = 3 ∨ i = 4 ∨ i = 5 ∨ i = 6 := by omega
  all_goals rfl
abbrev s__law_numbered : Stmt := topS 18
abbrev N__law_numbered : List Str := ["at", "other", "first", "second", "k"]
theorem sc__law_numbered : FnScope N__law_numbered ["at", "other"] (defScope s__law_numbered) := ⟨rfl, rfl, rfl, by decide +kernel, rfl, by decide +kernel, by decide +kernel⟩
def sp_numbered : Sp := fun vs H Q _ => ∃ (a b : Int), vs = [.int a, .int b] ∧ ∀ H', Ex H H' → Q (.bl true) H'
theorem c_numbered {f : Addr} {fd : FuncData} (F : FnP K "_law_numbered" s__law_numbered f fd) (hm : mg "_law_numbered" = some (.ref f)) (B : Blt mg) (er : Er K mg CL Z) (C__law_alike : Cal P w K mg base 3 "_law_alike" ["told", "due"] (sp_alike K 2)) (C__law_alone : Cal P w K mg base 1 "_law_alone" ["made", "kind"] (sp_alone CL)) :
    Cal P w K mg base 4 "_law_numbered" ["at", "other"] sp_numbered := by
  have T_BadValue : Xn K mg "BadValue" "at" (CL 0) := er.x 0 (by decide)
  have m_BadValue := T_BadValue.1
  have T_BadNet : Xn K mg "BadNet" "at" (CL 1) := er.x 1 (by decide)
  have m_BadNet := T_BadNet.1
  have T_BadStep : Xn K mg "BadStep" "at" (CL 2) := er.x 2 (by decide)
  have m_BadStep := T_BadStep.1
  have T_BadCut : Xn K mg "BadCut" "at" (CL 3) := er.x 3 (by decide)
  have m_BadCut := T_BadCut.1
  have T_BadClaim : Xn K mg "BadClaim" "at" (CL 4) := er.x 4 (by decide)
  have m_BadClaim := T_BadClaim.1
  have T_BadPaper : Xn K mg "BadPaper" "at" (CL 5) := er.x 5 (by decide)
  have m_BadPaper := T_BadPaper.1
  have T_BadLine : Xn K mg "BadLine" "at" (CL 6) := er.x 6 (by decide)
  have m_BadLine := T_BadLine.1
  have T_TooMany : Xn K mg "TooMany" "word" (CL 7) := er.x 7 (by decide)
  have m_TooMany := T_TooMany.1
  have T_NothingThere : Xn K mg "NothingThere" "name" (CL 8) := er.x 8 (by decide)
  have m_NothingThere := T_NothingThere.1
  have m_CutError := er.z
  refine cal_of F hm sc__law_numbered (fun _ _ _ _ _ _ _ us hl => match us, hl with | [_, _], _ => rfl) (fun vs H Q E h => ?_) (fun cdv A outer s H vs Q E hr h => ?_)
  · obtain ⟨_, _, rfl, _⟩ := h
    rfl
  · obtain ⟨a, b, rfl, q⟩ := h
    have nd := sc__law_numbered.nd
    refine ⟨_, [some _, some _, none, none, none], ((pss_cons (ps_set (i := 2) nd rfl (Or.inl rfl) (pe_lst (pa_cons (pe_newX T_BadValue hr (pa_cons (pv 0) pa_nil) (by rfl)) (pa_cons (pe_newX T_BadNet hr (pa_cons (pv 0) pa_nil) (by rfl)) (pa_cons (pe_newX T_BadStep hr (pa_cons (pv 0) pa_nil) (by rfl)) (pa_cons (pe_newX T_BadCut hr (pa_cons (pv 0) pa_nil) (by rfl)) (pa_cons (pe_newX T_BadClaim hr (pa_cons (pv 0) pa_nil) (by rfl)) (pa_cons (pe_newX T_BadPaper hr (pa_cons (pv 0) pa_nil) (by rfl)) (pa_cons (pe_newX T_BadLine hr (pa_cons (pv 0) pa_nil) (by rfl)) pa_nil)))))))))
      (pss_cons (ps_set (i := 3) nd rfl (Or.inl rfl) (pe_lst (pa_cons (pe_newX T_BadValue hr (pa_cons (pv 1) pa_nil) (by rfl)) (pa_cons (pe_newX T_BadNet hr (pa_cons (pv 1) pa_nil) (by rfl)) (pa_cons (pe_newX T_BadStep hr (pa_cons (pv 1) pa_nil) (by rfl)) (pa_cons (pe_newX T_BadCut hr (pa_cons (pv 1) pa_nil) (by rfl)) (pa_cons (pe_newX T_BadClaim hr (pa_cons (pv 1) pa_nil) (by rfl)) (pa_cons (pe_newX T_BadPaper hr (pa_cons (pv 1) pa_nil) (by rfl)) pa_nil))))))))
      (pss_cons (ps_expr (pe_bmK (K := K) rfl PySem.F.plainAttrs_list PySem.F.slot_list_append PySem.F.type_list_append mt_append (pv 3) (pa_cons (pe_newX T_BadLine hr (pa_cons (pv 1) pa_nil) (by rfl)) pa_nil)))
      (pss_cons (ps_for PassesOwn.never rfl (pi_range1 (by rfl) B.range_ (pa_cons pe_int pa_nil)) (pg_name (i := 4) nd rfl (by first | exact Or.inl rfl | exact Or.inr rfl)) (pss_one (ps_if (PW.pt (pw_or (pt_not (pt_val (pe_callC C__law_alike (hr.mono (by omega)) (by rfl) (pa_cons (pe_tup (pa_cons (pe_xatK (K := K) rfl (pe_ix (ix_seqK (K := K) rfl) (pv 2) (pv 4) (fun _ _ => rfl))) (pa_cons (pe_xatK (K := K) rfl (pe_ix (ix_seqK (K := K) rfl) (pv 3) (pv 4) (fun _ _ => rfl))) pa_nil))) (pa_cons (pe_tup (pa_cons (pv 0) (pa_cons (pv 1) pa_nil))) pa_nil))))) (pw_or1 (pt_not (pt_val (pe_callC C__law_alone (hr.mono (by omega)) (by rfl) (pa_cons (pe_ix (ix_seqK (K := K) rfl) (pv 2) (pv 4) (fun _ _ => rfl)) (pa_cons (pv 4) pa_nil)))))))) (pss_one (ps_ret pe_bl)) pss_nil)))
      (pss_one (ps_ret pe_bl))))))), rfl, ?_⟩
    walk_at "q"
    refine q_newV (by exact rfl) (fun d1 e1 H1 x1 hd1 he1 => ?_)
    walk_at "q"
    refine q_newV (by exact rfl) (fun d2 e2 H2 x2 hd2 he2 => ?_)
    walk_at "q"
    refine q_newV (by exact rfl) (fun d3 e3 H3 x3 hd3 he3 => ?_)
    walk_at "q"
    refine q_newV (by exact rfl) (fun d4 e4 H4 x4 hd4 he4 => ?_)
    walk_at "q"
    refine q_newV (by exact rfl) (fun d5 e5 H5 x5 hd5 he5 => ?_)
    walk_at "q"
    refine q_newV (by exact rfl) (fun d6 e6 H6 x6 hd6 he6 => ?_)
    walk_at "q"
    refine q_newV (by exact rfl) (fun d7 e7 H7 x7 hd7 he7 => ?_)
    walk_at "q"
    rename_i p hp
    have FA : Fam CL (L2.upd H7 p (.lst [.ref e1, .ref e2, .ref e3, .ref e4, .ref e5, .ref e6, .ref e7])) [.ref e1, .ref e2, .ref e3, .ref e4, .ref e5, .ref e6, .ref e7] (.int a) := fun i hi => by
      obtain rfl | rfl | rfl | rfl | rfl | rfl | rfl : i = 0 ∨ i = 1 ∨ i = 2 ∨ i = 3 ∨ i = 4 ∨ i = 5 ∨ i = 6 := by omega
      · exact ⟨e1, d1, rfl, by walk_at "at", by walk_at "at"⟩
      · exact ⟨e2, d2, rfl, by walk_at "at", by walk_at "at"⟩
      · exact ⟨e3, d3, rfl, by walk_at "at", by walk_at "at"⟩
      · exact ⟨e4, d4, rfl, by walk_at "at", by walk_at "at"⟩
      · exact ⟨e5, d5, rfl, by walk_at "at", by walk_at "at"⟩
      · exact ⟨e6, d6, rfl, by walk_at "at", by walk_at "at"⟩
      · exact ⟨e7, d7, rfl, by walk_at "at", by walk_at "at"⟩
    have pA : L2.upd H7 p (.lst [.ref e1, .ref e2, .ref e3, .ref e4, .ref e5, .ref e6, .ref e7]) p = some (.lst [.ref e1, .ref e2, .ref e3, .ref e4, .ref e5, .ref e6, .ref e7]) := upd_same
    have eA : Ex H (L2.upd H7 p (.lst [.ref e1, .ref e2, .ref e3, .ref e4, .ref e5, .ref e6, .ref e7])) := by walk_at "ex"
    generalize L2.upd H7 p (.lst [.ref e1, .ref e2, .ref e3, .ref e4, .ref e5, .ref e6, .ref e7]) = HA at FA pA eA ⊢
    walk_at "q"
    refine q_newV (by exact rfl) (fun d11 e11 H11 x11 hd11 he11 => ?_)
    walk_at "q"
    refine q_newV (by exact rfl) (fun d12 e12 H12 x12 hd12 he12 => ?_)
    walk_at "q"
    refine q_newV (by exact rfl) (fun d13 e13 H13 x13 hd13 he13 => ?_)
    walk_at "q"
    refine q_newV (by exact rfl) (fun d14 e14 H14 x14 hd14 he14 => ?_)
    walk_at "q"
    refine q_newV (by exact rfl) (fun d15 e15 H15 x15 hd15 he15 => ?_)
    walk_at "q"
    refine q_newV (by exact rfl) (fun d16 e16 H16 x16 hd16 he16 => ?_)
    walk_at "q"
    rename_i p2 hp2
    refine q_newV (by exact rfl) (fun d17 e17 H17 x17 hd17 he17 => ?_)
    walk_at "q"
    have p2H : H17 p2 = some (.lst [.ref e11, .ref e12, .ref e13, .ref e14, .ref e15, .ref e16]) := by walk_at "at"
    have FB : Fam CL (L2.upd H17 p2 (.lst [.ref e11, .ref e12, .ref e13, .ref e14, .ref e15, .ref e16, .ref e17])) [.ref e11, .ref e12, .ref e13, .ref e14, .ref e15, .ref e16, .ref e17] (.int b) := Fam.mu (fun i hi => by
      obtain rfl | rfl | rfl | rfl | rfl | rfl | rfl : i = 0 ∨ i = 1 ∨ i = 2 ∨ i = 3 ∨ i = 4 ∨ i = 5 ∨ i = 6 := by omega
      · exact ⟨e11, d11, rfl, by walk_at "at", by walk_at "at"⟩
      · exact ⟨e12, d12, rfl, by walk_at "at", by walk_at "at"⟩
      · exact ⟨e13, d13, rfl, by walk_at "at", by walk_at "at"⟩
      · exact ⟨e14, d14, rfl, by walk_at "at", by walk_at "at"⟩
      · exact ⟨e15, d15, rfl, by walk_at "at", by walk_at "at"⟩
      · exact ⟨e16, d16, rfl, by walk_at "at", by walk_at "at"⟩
      · exact ⟨e17, d17, rfl, by walk_at "at", by walk_at "at"⟩) p2H
    have e17A : Ex HA (L2.upd H17 p2 (.lst [.ref e11, .ref e12, .ref e13, .ref e14, .ref e15, .ref e16, .ref e17])) := Ex.mut (by walk_at "ex") (Ex.back (by walk_at "ex") hp2)
    have FA2 := FA.mono e17A
    have pA2 := e17A _ _ pA
    have eH := eA.trans e17A
    refine q_rng1 7 (by decide) (fun _ σ' H' => ∃ z, σ' = [some (.int a), some (.int b), some (.ref p), some (.ref p2), z] ∧ Ex (L2.upd H17 p2 (.lst [.ref e11, .ref e12, .ref e13, .ref e14, .ref e15, .ref e16, .ref e17])) H') ⟨none, rfl, Ex.refl _⟩ ?_ ?_
    · rintro i _ H' hi ⟨z, rfl, e⟩
      have T := er.x i (by omega)
      rw [flE_at hi] at T
      obtain ⟨u, c, h1, h2, h3⟩ := FA2.mono e i hi
      obtain ⟨u', c', h1', h2', h3'⟩ := FB.mono e i hi
      rw [flE_at hi] at h3 h3'
      walk_at "q"
      refine q_ixC (e _ _ pA2) h1 ?_
      refine q_xatE T h2 h3 ?_
      walk_at "q"
      refine q_ixC (e _ _ upd_same) h1' ?_
      refine q_xatE T h2' h3' ?_
      walk_at "q"
      rename_i t1 ht1 t2 ht2
      refine ⟨_, .ref t1, .ref t2, .tuple [.int a, .int b], rfl, Ex.refl _, .tup (.inl (.inl (by walk_at "at"))) (.cons (.int a) (.cons (.int b) .nil)), .tup (.inl (.inl (by walk_at "at"))) (.cons (.int a) (.cons (.int b) .nil)), by simp [Sm], fun H2 e2 => ?_⟩
      walk_at "q"
      have e3 : Ex H' H2 := by walk_at "ex"
      refine q_ixC (e3 _ _ (e _ _ pA2)) h1 ?_
      walk_at "q"
      refine ⟨i, u, c, .int a, rfl, by omega, e3 _ _ h2, by rw [flE_at hi]; exact e3 _ _ h3, fun H3 e4 => ?_⟩
      walk_at "q"
      exact ⟨_, rfl, by walk_at "ex"⟩
    · rintro _ H' ⟨z, rfl, e⟩
      walk_at "q"
      exact q _ (eH.trans e)
abbrev s__law_worded : Stmt := topS 19
abbrev N__law_worded : List Str := ["word", "other", "many", "there"]
theorem sc__law_worded : FnScope N__law_worded ["word", "other"] (defScope s__law_worded) := ⟨rfl, rfl, rfl, by decide +kernel, rfl, by decide +kernel, by decide +kernel⟩
def sp_worded : Sp := fun vs H Q _ => ∃ (a b : Str), vs = [.str a, .str b] ∧ ∀ H', Ex H H' → Q (.bl true) H'
theorem c_worded {f : Addr} {fd : FuncData} (F : FnP K "_law_worded" s__law_worded f fd) (hm : mg "_law_worded" = some (.ref f)) (B : Blt mg) (er : Er K mg CL Z) (C__law_alike : Cal P w K mg base 3 "_law_alike" ["told", "due"] (sp_alike K 2)) (C__law_alone : Cal P w K mg base 1 "_law_alone" ["made", "kind"] (sp_alone CL)) :
    Cal P w K mg base 4 "_law_worded" ["word", "other"] sp_worded := by
  have T_TooMany : Xn K mg "TooMany" "word" (CL 7) := er.x 7 (by decide)
  have T_NothingThere : Xn K mg "NothingThere" "name" (CL 8) := er.x 8 (by decide)
  refine cal_of F hm sc__law_worded (fun _ _ _ _ _ _ _ us hl => match us, hl with | [_, _], _ => rfl) (fun vs H Q E h => ?_) (fun cdv A outer s H vs Q E hr h => ?_)
  · obtain ⟨_, _, rfl, _⟩ := h
    rfl
  · obtain ⟨a, b, rfl, q⟩ := h
    have nd := sc__law_worded.nd
    refine ⟨_, [some _, some _, none, none], ((pss_cons (ps_set (i := 2) nd rfl (Or.inl rfl) (pe_lst (pa_cons (pe_newX T_TooMany hr (pa_cons (pv 0) pa_nil) (by rfl)) (pa_cons (pe_newX T_TooMany hr (pa_cons (pv 1) pa_nil) (by rfl)) pa_nil))))
      (pss_cons (ps_set (i := 3) nd rfl (Or.inl rfl) (pe_lst (pa_cons (pe_newX T_NothingThere hr (pa_cons (pv 0) pa_nil) (by rfl)) (pa_cons (pe_newX T_NothingThere hr (pa_cons (pv 1) pa_nil) (by rfl)) pa_nil))))
      (pss_cons (ps_if (pt_not (pt_val (pe_callC C__law_alike (hr.mono (by omega)) (by rfl) (pa_cons (pe_tup (pa_cons (pe_xatK (K := K) rfl (pe_ix (ix_seqK (K := K) rfl) (pv 2) pe_int (fun _ _ => rfl))) (pa_cons (pe_xatK (K := K) rfl (pe_ix (ix_seqK (K := K) rfl) (pv 2) pe_int (fun _ _ => rfl))) (pa_cons (pe_xatK (K := K) rfl (pe_ix (ix_seqK (K := K) rfl) (pv 3) pe_int (fun _ _ => rfl))) (pa_cons (pe_xatK (K := K) rfl (pe_ix (ix_seqK (K := K) rfl) (pv 3) pe_int (fun _ _ => rfl))) pa_nil))))) (pa_cons (pe_tup (pa_cons (pv 0) (pa_cons (pv 1) (pa_cons (pv 0) (pa_cons (pv 1) pa_nil))))) pa_nil))))) (pss_one (ps_ret pe_bl)) pss_nil)
      (pss_one (ps_ret (pe_and (pe_callC C__law_alone (hr.mono (by omega)) (by rfl) (pa_cons (pe_ix (ix_seqK (K := K) rfl) (pv 2) pe_int (fun _ _ => rfl)) (pa_cons pe_int pa_nil))) (pe_one (pe_callC C__law_alone (hr.mono (by omega)) (by rfl) (pa_cons (pe_ix (ix_seqK (K := K) rfl) (pv 3) pe_int (fun _ _ => rfl)) (pa_cons pe_int pa_nil))))))))))), rfl, ?_⟩
    walk_at "q"
    refine q_newV (by exact rfl) (fun d1 e1 H1 x1 hd1 he1 => ?_)
    walk_at "q"
    refine q_newV (by exact rfl) (fun d2 e2 H2 x2 hd2 he2 => ?_)
    walk_at "q"
    rename_i p hp
    refine q_newV (by exact rfl) (fun d3 e3 H3 x3 hd3 he3 => ?_)
    walk_at "q"
    refine q_newV (by exact rfl) (fun d4 e4 H4 x4 hd4 he4 => ?_)
    walk_at "q"
    rename_i l2 hl2 t1 ht1 t2 ht2
    have r1 : ∀ {G : Hp} {t : Addr}, G t = some (.tup [.str a, .str b, .str a, .str b]) → Rp K G (.ref t) (.tuple [.str a, .str b, .str a, .str b]) := fun h => .tup (.inl (.inl h)) (.cons (.str a) (.cons (.str b) (.cons (.str a) (.cons (.str b) .nil))))
    refine ⟨_, .ref t1, .ref t2, .tuple [.str a, .str b, .str a, .str b], rfl, Ex.refl _, r1 (by walk_at "at"), r1 (by walk_at "at"), by simp [Sm], fun H5 e5 => ?_⟩
    walk_at "q"
    refine ⟨7, e1, d1, .str a, rfl, by decide, by walk_at "at", by walk_at "at", fun H6 e6 => ?_⟩
    walk_at "q"
    refine ⟨8, e3, d3, .str a, rfl, by decide, by walk_at "at", by walk_at "at", fun H7 e7 => ?_⟩
    walk_at "q"
    exact q _ (by walk_at "ex")
end
end Cw

set_option maxHeartbeats 4000000
namespace Cw
open PySem PySem.Spec PyProof.Rows L2
section
variable {P : Program} {w : World} {K : PySem.W.Frag} {mg : Str → Option Value} {base : Heap} {CL : Nat → Addr} {Z : Addr}
abbrev s_law : Stmt := topS 23
abbrev N_law : List Str := ["script", "box", "far", "at", "word", "kind", "due"]
theorem sc_law : FnScope N_law ["script"] (defScope s_law) := ⟨rfl, rfl, rfl, by decide +kernel, rfl, by decide +kernel, by decide +kernel⟩
def sp_law (K : PySem.W.Frag) : Sp := fun vs H Q _ => ∃ (s : Addr) (ns : List Int), vs = [.ref s] ∧ SqL K H s (ns.map V.int) ∧ ns.length ≤ 1000 ∧ ∀ H', Q (.bl true) H'
theorem c_law {f : Addr} {fd : FuncData} (F : FnP K "law" s_law f fd) (B : Blt mg) (er : Er K mg CL Z) (C__law_box : Cal P w K mg base 1 "_law_box" ["script", "at"] (sp_box K)) (C__law_draw : Cal P w K mg base 2 "_law_draw" ["box", "many"] (sp_draw K))
    (C__law_text : Cal P w K mg base 3 "_law_text" ["box"] (sp_text K)) (C__law_numbered : Cal P w K mg base 4 "_law_numbered" ["at", "other"] sp_numbered) (C__law_worded : Cal P w K mg base 4 "_law_worded" ["word", "other"] sp_worded)
    (C__law_alike : Cal P w K mg base 3 "_law_alike" ["told", "due"] (sp_alike K 2)) (C__law_caught : Cal P w K mg base 4 "_law_caught" ["kind", "at", "word"] sp_caught) (C__law_beneath : Cal P w K mg base 4 "_law_beneath" ["kind", "at", "word"] sp_beneath) :
    FnOk P w K mg base CX0 5 f fd ["script"] (sp_law K) := by
  refine fnok_of F sc_law (fun vs H Q E h => ?_) (fun cdv A outer s H vs Q E hr h => ?_)
  · obtain ⟨_, _, rfl, _⟩ := h
    rfl
  · obtain ⟨sc, ns, rfl, hS, hl, q⟩ := h
    have nd := sc_law.nd
    refine ⟨_, [some _, none, none, none, none, none, none], ((pss_cons (ps_set (i := 1) nd rfl (Or.inl rfl) (pe_callC C__law_box (hr.mono (by omega)) (by rfl) (pa_cons (pv 0) (pa_cons pe_int pa_nil))))
      (pss_cons (ps_set (i := 2) nd rfl (Or.inl rfl) (pe_callC C__law_box (hr.mono (by omega)) (by rfl) (pa_cons (pv 0) (pa_cons pe_int pa_nil))))
      (pss_cons (ps_set (i := 3) nd rfl (Or.inl rfl) (pe_callC C__law_draw (hr.mono (by omega)) (by rfl) (pa_cons (pv 1) (pa_cons pe_int pa_nil))))
      (pss_cons (ps_set (i := 4) nd rfl (Or.inl rfl) (pe_callC C__law_text (hr.mono (by omega)) (by rfl) (pa_cons (pv 1) pa_nil)))
      (pss_cons (ps_if (PW.pt (pw_or (pt_not (pt_val (pe_callC C__law_numbered (hr.mono (by omega)) (by rfl) (pa_cons (pv 3) (pa_cons (pe_callC C__law_draw (hr.mono (by omega)) (by rfl) (pa_cons (pv 2) (pa_cons pe_int pa_nil))) pa_nil))))) (pw_or1 (pt_not (pt_val (pe_callC C__law_worded (hr.mono (by omega)) (by rfl) (pa_cons (pv 4) (pa_cons (pe_callC C__law_text (hr.mono (by omega)) (by rfl) (pa_cons (pv 2) pa_nil)) pa_nil)))))))) (pss_one (ps_ret pe_bl)) pss_nil)
      (pss_cons (ps_for PassesOwn.never rfl (pi_range1 (by rfl) B.range_ (pa_cons pe_int pa_nil)) (pg_name (i := 5) nd rfl (by first | exact Or.inl rfl | exact Or.inr rfl)) (pss_cons (ps_set (i := 6) nd rfl (Or.inl rfl) (pe_ix (ix_seqK (K := K) rfl) (pe_lst (pa_cons (pv 3) (pa_cons (pv 4) pa_nil))) (pe_callTy call_intA (by rfl) B.int_ bo_int (pa_cons (pe_cmpR op_gt (pv 5) pe_int (nomark _)) pa_nil)) (fun _ _ => rfl)))
      (pss_one (ps_if (PW.pt (pw_or (pt_not (pt_val (pe_callC C__law_alike (hr.mono (by omega)) (by rfl) (pa_cons (pe_callC C__law_caught (hr.mono (by omega)) (by rfl) (pa_cons (pv 5) (pa_cons (pv 3) (pa_cons (pv 4) pa_nil)))) (pa_cons (pe_tup (pa_cons (pv 5) (pa_cons (pv 6) pa_nil))) pa_nil))))) (pw_or1 (pt_not (pt_val (pe_callC C__law_beneath (hr.mono (by omega)) (by rfl) (pa_cons (pv 5) (pa_cons (pv 3) (pa_cons (pv 4) pa_nil))))))))) (pss_one (ps_ret pe_bl)) pss_nil))))
      (pss_one (ps_ret pe_bl))))))))), rfl, ?_⟩
    walk_at "q"
    refine ⟨sc, ns, 0, rfl, hS, hl, fun c b hc hb => ?_⟩
    walk_at "q"
    refine ⟨sc, ns, 1, rfl, Ex.sl ((Ex.new hc).trans (Ex.new hb)) hS, hl, fun c2 b2 hc2 hb2 => ?_⟩
    have n1 := ne_of_none (H := L2.upd (L2.upd H c (.lst (ns.map V.int))) b _) upd_same hc2
    have n2 := ne_of_none (H := L2.upd (L2.upd (L2.upd H c (.lst (ns.map V.int))) b _) c2 _) upd_same hb2
    have n3 : b2 ≠ b := by
      rw [upd_ne (Ne.symm n2)] at hb2
      exact Ne.symm (ne_of_none upd_same hb2)
    have n4 : b2 ≠ c := by
      rw [upd_ne (Ne.symm n2), upd_ne n3] at hb2
      exact Ne.symm (ne_of_none upd_same hb2)
    have gb2 : L2.upd (L2.upd H c (.lst (ns.map V.int))) c2 (.lst (ns.map V.int)) b2 = none := by
      rw [upd_ne (Ne.symm n2), upd_ne n3] at hb2
      rw [upd_ne (Ne.symm n2)]
      exact hb2
    have gb : L2.upd (L2.upd H c (.lst (ns.map V.int))) c2 (.lst (ns.map V.int)) b = none := by
      rw [upd_ne n1]
      exact hb
    have hH : ∃ H1, H1 = L2.upd (L2.upd (L2.upd (L2.upd H c (.lst (ns.map V.int))) b (.lst [.int 0, .int 0, .int 0, .int 0, .int 0, .ref c])) c2 (.lst (ns.map V.int))) b2 (.lst [.int 0, .int 0, .int 1, .int 0, .int 1, .ref c2]) := ⟨_, rfl⟩
    obtain ⟨H1, eH1⟩ := hH
    rw [← eH1]
    have hb1 : H1 b = some (.lst [.int 0, .int 0, .int 0, .int 0, .int 0, .ref c]) := by
      rw [eH1]
      exact upd_old (upd_old upd_same hc2) hb2
    have hb21 : H1 b2 = some (.lst [.int 0, .int 0, .int 1, .int 0, .int 1, .ref c2]) := by
      rw [eH1]
      exact upd_same
    have eG : Ex (L2.upd (L2.upd H c (.lst (ns.map V.int))) c2 (.lst (ns.map V.int))) H1 := by
      rw [eH1]
      exact Ex.add (((Ex.new hb).trans (Ex.new hc2)).trans (Ex.new hb2)) (upd_old upd_same hb2)
    have bx : BoxL K (L2.upd (L2.upd H c (.lst (ns.map V.int))) c2 (.lst (ns.map V.int))) [.int 0, .int 0, .int 0, .int 0, .int 0, .ref c] :=
      ⟨0, 0, 0, 0, 0, c, ns, rfl, .inl (.inl (upd_mu upd_same (ne_of_none (upd_old upd_same hb) hc2))), by decide⟩
    have bx2 : BoxL K (L2.upd (L2.upd H c (.lst (ns.map V.int))) c2 (.lst (ns.map V.int))) [.int 0, .int 0, .int 1, .int 0, .int 1, .ref c2] := ⟨0, 0, 1, 0, 1, c2, ns, rfl, .inl (.inl upd_same), by decide⟩
    generalize L2.upd (L2.upd H c (.lst (ns.map V.int))) c2 (.lst (ns.map V.int)) = G at gb gb2 eG bx bx2
    clear eH1
    walk_at "q"
    refine ⟨G, b, 1000, _, rfl, eG, gb, hb1, bx, by decide, fun at_ ys _ _ hB => ?_⟩
    walk_at "q"
    refine ⟨G, b, _, rfl, Ex.mut eG gb, gb, upd_same, hB, fun word ys2 H3 hB2 m3 hb3 => ?_⟩
    have eG3 : Ex G H3 := (Ex.mut eG gb).mu gb m3
    have hf3 : H3 b2 = some (.lst [.int 0, .int 0, .int 1, .int 0, .int 1, .ref c2]) := m3 _ _ n3 (upd_mu hb21 n3)
    clear m3 hb3 hB2 hB hb1 hb21 eG
    walk_at "q"
    refine ⟨G, b2, 9, _, rfl, eG3, gb2, hf3, bx2, by decide, fun other ys4 _ _ hB4 => ?_⟩
    walk_at "q"
    refine ⟨at_, other, rfl, fun H5 e5 => ?_⟩
    walk_at "q"
    refine ⟨G, b2, _, rfl, (Ex.mut eG3 gb2).trans e5, gb2, e5 _ _ upd_same, hB4, fun oword ys6 H6 hB6 m6 hb6 => ?_⟩
    walk_at "q"
    refine ⟨word, oword, rfl, fun H7 e7 => ?_⟩
    walk_at "q"
    refine q_rng1 9 (by decide) (fun _ σ' H' => ∃ z1 z2, σ' = [some (.ref sc), some (.ref b), some (.ref b2), some (.int at_), some (.str word), z1, z2]) ⟨_, _, rfl⟩ ?_ ?_
    · rintro i _ H' hi ⟨z1, z2, rfl⟩
      walk_at "q"
      rename_i p hp
      have hx : atI [V.int at_, V.str word] (if decide (6 < (i : Int)) = true then 1 else 0) = some (ofE i (.int at_) (.str word)) := by
        unfold ofE
        by_cases z : i < 7
        · rw [if_pos z, if_neg (by simp; omega)]
          rfl
        · rw [if_neg z, if_pos (by simp; omega)]
          rfl
      have rp : ∀ G, Rp K G (ofE i (.int at_) (.str word)) (if i < 7 then .int at_ else .str word) := fun G => by
        unfold ofE
        by_cases z : i < 7
        · rw [if_pos z, if_pos z]
          exact .int _
        · rw [if_neg z, if_neg z]
          exact .str _
      refine q_ixC upd_same hx ?_
      generalize L2.upd H' p (.lst [.int at_, .str word]) = H8
      clear hx
      walk_at "q"
      refine ⟨i, .int at_, .str word, rfl, hi, fun H9 t e9 ht => ?_⟩
      walk_at "q"
      rename_i t2 ht2
      refine ⟨_, .ref t, .ref t2, .tuple [.int i, if i < 7 then .int at_ else .str word], rfl, Ex.refl _, .tup (.inl (.inl (by walk_at "at"))) (.cons (.int _) (.cons (rp _) .nil)), .tup (.inl (.inl (by walk_at "at"))) (.cons (.int _) (.cons (rp _) .nil)), ?_, fun H10 e10 => ?_⟩
      · by_cases z : i < 7 <;> simp [Sm, z]
      · walk_at "q"
        refine ⟨i, .int at_, .str word, rfl, hi, fun H11 e11 => ?_⟩
        walk_at "q"
        exact ⟨_, _, rfl⟩
    · rintro _ H' ⟨z1, z2, rfl⟩
      walk_at "q"
      exact q _
end
end Cw

set_option maxHeartbeats 0
namespace Cw
open PySem PySem.Spec PyProof.Rows L2
theorem initS_BadValue : InitS (clsInit (topS 2) 0) "BadValue.__init__" "at" := ⟨⟨_, _, _, _, rfl⟩, rfl, rfl, rfl, fun _ _ _ => rfl, fun _ _ _ => rfl, fun _ _ => rfl, fun _ _ _ _ _ => ⟨rfl, rfl⟩, fun _ _ _ _ _ _ _ _ => rfl, by decide⟩
def di_BadValue : He.DefD := ⟨("BadValue", some "__init__"), "__init__", "BadValue.__init__", defArgs (clsInit (topS 2) 0), defBody (clsInit (topS 2) 0), defScope (clsInit (topS 2) 0), [], []⟩
theorem initS_BadNet : InitS (clsInit (topS 3) 0) "BadNet.__init__" "at" := ⟨⟨_, _, _, _, rfl⟩, rfl, rfl, rfl, fun _ _ _ => rfl, fun _ _ _ => rfl, fun _ _ => rfl, fun _ _ _ _ _ => ⟨rfl, rfl⟩, fun _ _ _ _ _ _ _ _ => rfl, by decide⟩
def di_BadNet : He.DefD := ⟨("BadNet", some "__init__"), "__init__", "BadNet.__init__", defArgs (clsInit (topS 3) 0), defBody (clsInit (topS 3) 0), defScope (clsInit (topS 3) 0), [], []⟩
theorem initS_BadStep : InitS (clsInit (topS 4) 0) "BadStep.__init__" "at" := ⟨⟨_, _, _, _, rfl⟩, rfl, rfl, rfl, fun _ _ _ => rfl, fun _ _ _ => rfl, fun _ _ => rfl, fun _ _ _ _ _ => ⟨rfl, rfl⟩, fun _ _ _ _ _ _ _ _ => rfl, by decide⟩
def di_BadStep : He.DefD := ⟨("BadStep", some "__init__"), "__init__", "BadStep.__init__", defArgs (clsInit (topS 4) 0), defBody (clsInit (topS 4) 0), defScope (clsInit (topS 4) 0), [], []⟩
theorem initS_BadCut : InitS (clsInit (topS 5) 0) "BadCut.__init__" "at" := ⟨⟨_, _, _, _, rfl⟩, rfl, rfl, rfl, fun _ _ _ => rfl, fun _ _ _ => rfl, fun _ _ => rfl, fun _ _ _ _ _ => ⟨rfl, rfl⟩, fun _ _ _ _ _ _ _ _ => rfl, by decide⟩
def di_BadCut : He.DefD := ⟨("BadCut", some "__init__"), "__init__", "BadCut.__init__", defArgs (clsInit (topS 5) 0), defBody (clsInit (topS 5) 0), defScope (clsInit (topS 5) 0), [], []⟩
theorem initS_BadClaim : InitS (clsInit (topS 6) 0) "BadClaim.__init__" "at" := ⟨⟨_, _, _, _, rfl⟩, rfl, rfl, rfl, fun _ _ _ => rfl, fun _ _ _ => rfl, fun _ _ => rfl, fun _ _ _ _ _ => ⟨rfl, rfl⟩, fun _ _ _ _ _ _ _ _ => rfl, by decide⟩
def di_BadClaim : He.DefD := ⟨("BadClaim", some "__init__"), "__init__", "BadClaim.__init__", defArgs (clsInit (topS 6) 0), defBody (clsInit (topS 6) 0), defScope (clsInit (topS 6) 0), [], []⟩
theorem initS_BadPaper : InitS (clsInit (topS 7) 0) "BadPaper.__init__" "at" := ⟨⟨_, _, _, _, rfl⟩, rfl, rfl, rfl, fun _ _ _ => rfl, fun _ _ _ => rfl, fun _ _ => rfl, fun _ _ _ _ _ => ⟨rfl, rfl⟩, fun _ _ _ _ _ _ _ _ => rfl, by decide⟩
def di_BadPaper : He.DefD := ⟨("BadPaper", some "__init__"), "__init__", "BadPaper.__init__", defArgs (clsInit (topS 7) 0), defBody (clsInit (topS 7) 0), defScope (clsInit (topS 7) 0), [], []⟩
theorem initS_BadLine : InitS (clsInit (topS 8) 0) "BadLine.__init__" "at" := ⟨⟨_, _, _, _, rfl⟩, rfl, rfl, rfl, fun _ _ _ => rfl, fun _ _ _ => rfl, fun _ _ => rfl, fun _ _ _ _ _ => ⟨rfl, rfl⟩, fun _ _ _ _ _ _ _ _ => rfl, by decide⟩
def di_BadLine : He.DefD := ⟨("BadLine", some "__init__"), "__init__", "BadLine.__init__", defArgs (clsInit (topS 8) 0), defBody (clsInit (topS 8) 0), defScope (clsInit (topS 8) 0), [], []⟩
theorem initS_TooMany : InitS (clsInit (topS 9) 0) "TooMany.__init__" "word" := ⟨⟨_, _, _, _, rfl⟩, rfl, rfl, rfl, fun _ _ _ => rfl, fun _ _ _ => rfl, fun _ _ => rfl, fun _ _ _ _ _ => ⟨rfl, rfl⟩, fun _ _ _ _ _ _ _ _ => rfl, by decide⟩
def di_TooMany : He.DefD := ⟨("TooMany", some "__init__"), "__init__", "TooMany.__init__", defArgs (clsInit (topS 9) 0), defBody (clsInit (topS 9) 0), defScope (clsInit (topS 9) 0), [], []⟩
theorem initS_NothingThere : InitS (clsInit (topS 10) 0) "NothingThere.__init__" "name" := ⟨⟨_, _, _, _, rfl⟩, rfl, rfl, rfl, fun _ _ _ => rfl, fun _ _ _ => rfl, fun _ _ => rfl, fun _ _ _ _ _ => ⟨rfl, rfl⟩, fun _ _ _ _ _ _ _ _ => rfl, by decide⟩
def di_NothingThere : He.DefD := ⟨("NothingThere", some "__init__"), "__init__", "NothingThere.__init__", defArgs (clsInit (topS 10) 0), defBody (clsInit (topS 10) 0), defScope (clsInit (topS 10) 0), [], []⟩
def d__law_mix : He.DefD := ⟨("_law_mix", none), "_law_mix", "_law_mix", defArgs (topS 12), defBody (topS 12), defScope (topS 12), [], []⟩
def d__law_box : He.DefD := ⟨("_law_box", none), "_law_box", "_law_box", defArgs (topS 13), defBody (topS 13), defScope (topS 13), [], []⟩
def d__law_draw : He.DefD := ⟨("_law_draw", none), "_law_draw", "_law_draw", defArgs (topS 14), defBody (topS 14), defScope (topS 14), [], []⟩
def d__law_alike : He.DefD := ⟨("_law_alike", none), "_law_alike", "_law_alike", defArgs (topS 15), defBody (topS 15), defScope (topS 15), [], []⟩
def d__law_text : He.DefD := ⟨("_law_text", none), "_law_text", "_law_text", defArgs (topS 16), defBody (topS 16), defScope (topS 16), [], []⟩
def d__law_alone : He.DefD := ⟨("_law_alone", none), "_law_alone", "_law_alone", defArgs (topS 17), defBody (topS 17), defScope (topS 17), [], []⟩
def d__law_numbered : He.DefD := ⟨("_law_numbered", none), "_law_numbered", "_law_numbered", defArgs (topS 18), defBody (topS 18), defScope (topS 18), [], []⟩
def d__law_worded : He.DefD := ⟨("_law_worded", none), "_law_worded", "_law_worded", defArgs (topS 19), defBody (topS 19), defScope (topS 19), [], []⟩
def d__law_raise : He.DefD := ⟨("_law_raise", none), "_law_raise", "_law_raise", defArgs (topS 20), defBody (topS 20), defScope (topS 20), [], []⟩
def d__law_caught : He.DefD := ⟨("_law_caught", none), "_law_caught", "_law_caught", defArgs (topS 21), defBody (topS 21), defScope (topS 21), [], []⟩
def d__law_beneath : He.DefD := ⟨("_law_beneath", none), "_law_beneath", "_law_beneath", defArgs (topS 22), defBody (topS 22), defScope (topS 22), [], []⟩
def d_law : He.DefD := ⟨("law", none), "law", "law", defArgs (topS 23), defBody (topS 23), defScope (topS 23), [], []⟩
def fnL : List He.DefD := [d__law_mix, d__law_box, d__law_draw, d__law_alike, d__law_text, d__law_alone, d__law_numbered, d__law_worded, d__law_raise, d__law_caught, d__law_beneath, d_law, di_BadValue, di_BadNet, di_BadStep, di_BadCut, di_BadClaim, di_BadPaper, di_BadLine, di_TooMany, di_NothingThere]
def gloL : List Str := ["_law_mix", "_law_box", "_law_draw", "_law_alike", "_law_text", "_law_alone", "_law_numbered", "_law_worded", "_law_raise", "_law_caught", "_law_beneath", "law", "BadValue", "BadNet", "BadStep", "BadCut", "BadClaim", "BadPaper", "BadLine", "TooMany", "NothingThere", "CutError"]
def faL : List He.Fa := gloL.map He.Fa.glo ++ bltNames.map He.Fa.free
def xsL : List Xf := [0, 1, 2, 3, 4, 5, 6, 7, 8].flatMap fun i => [.xc (nmE i) (flE i), .exm (nmE i) "CutError" true, .kit (nmE i) "CutError" true, .kitT (nmE i) "Exception" true, .kitT (nmE i) "ValueError" false] ++ [0, 1, 2, 3, 4, 5, 6, 7, 8].flatMap fun j => [.exm (nmE i) (nmE j) (decide (i = j)), .kit (nmE i) (nmE j) (decide (i = j))]
abbrev RL : PySem.W.OpenRow := PySem.W.OpenLaw.row PySem.Challenge.rw_cutweave_k00_errors
abbrev hkL : PySem.W.Hook := hookX 5 faL fnL xsL
def obL (s : PySem.W.SharedT) : AlX := obsXG 5 faL fnL xsL (HandSHeadRun.getT s)
theorem obL_eq (s : PySem.W.SharedT) : obL s = hkL.obs s.abs := obsXG_eq (HandSHeadRun.getT_eq s)
def looseL : List Str := ["__name__", "CutError", "BadValue", "BadNet", "BadStep", "BadCut", "BadClaim", "BadPaper", "BadLine", "TooMany", "NothingThere", "_law_mix", "_law_box", "_law_draw", "_law_alike", "_law_text", "_law_alone", "_law_numbered", "_law_worded", "_law_raise", "_law_caught", "_law_beneath"]
theorem xm9 {i : Nat} (h : i < 9) : i ∈ [0, 1, 2, 3, 4, 5, 6, 7, 8] := by
  simp
  omega
theorem er_of {K : PySem.W.Frag} {h : Heap} {mg : Str → Option Value} (X : K.In h) (G : h.Ns mainGlobals mg) (c : SaysX faL fnL xsL K) : Er K mg (fun i => He.ga K (nmE i)) (He.ga K "CutError") := by
  have g : ∀ x, x ∈ gloL → mg x = some (.ref (He.ga K x)) := fun x hx => He.glo_ok X G (c.f (x := .glo x) (List.mem_append_left _ (List.mem_map_of_mem hx)))
  have m1 : ∀ i, i < 9 → ∀ x, x ∈ ([.xc (nmE i) (flE i), .exm (nmE i) "CutError" true, .kit (nmE i) "CutError" true, .kitT (nmE i) "Exception" true, .kitT (nmE i) "ValueError" false] : List Xf) → x.ok K = true := fun i hi x hx =>
    c.x (List.mem_flatMap.mpr ⟨i, xm9 hi, List.mem_append_left _ hx⟩)
  have m2 : ∀ i j, i < 9 → j < 9 → ∀ x, x ∈ ([.exm (nmE i) (nmE j) (decide (i = j)), .kit (nmE i) (nmE j) (decide (i = j))] : List Xf) → x.ok K = true := fun i j hi hj x hx =>
    c.x (List.mem_flatMap.mpr ⟨i, xm9 hi, List.mem_append_right _ (List.mem_flatMap.mpr ⟨j, xm9 hj, hx⟩)⟩)
  refine ⟨fun i hi => ⟨g _ ?_, He.ma K (He.ga K (nmE i)) "__init__", ?_⟩, fun i j hi hj => of_decide_eq_true (m2 i j hi hj (.exm (nmE i) (nmE j) (decide (i = j))) (by simp)), fun i hi => of_decide_eq_true (m1 i hi (.exm (nmE i) "CutError" true) (by simp)),
    fun i j hi hj => of_decide_eq_true (m2 i j hi hj (.kit (nmE i) (nmE j) (decide (i = j))) (by simp)), fun i hi => of_decide_eq_true (m1 i hi (.kit (nmE i) "CutError" true) (by simp)),
    fun i hi => of_decide_eq_true (m1 i hi (.kitT (nmE i) "Exception" true) (by simp)), fun i hi => of_decide_eq_true (m1 i hi (.kitT (nmE i) "ValueError" false) (by simp)), g _ (by decide)⟩
  · obtain rfl | rfl | rfl | rfl | rfl | rfl | rfl | rfl | rfl : i = 0 ∨ i = 1 ∨ i = 2 ∨ i = 3 ∨ i = 4 ∨ i = 5 ∨ i = 6 ∨ i = 7 ∨ i = 8 := by omega
    all_goals decide
  · have hx := xcB_ok (m1 i hi (.xc (nmE i) (flE i)) (by simp))
    obtain rfl | rfl | rfl | rfl | rfl | rfl | rfl | rfl | rfl : i = 0 ∨ i = 1 ∨ i = 2 ∨ i = 3 ∨ i = 4 ∨ i = 5 ∨ i = 6 ∨ i = 7 ∨ i = 8 := by omega
    · obtain ⟨fd, F⟩ := c.d.def_ 12 (d := di_BadValue) rfl
      exact ⟨_, _, fd, hx, initS_BadValue, F⟩
    · obtain ⟨fd, F⟩ := c.d.def_ 13 (d := di_BadNet) rfl
      exact ⟨_, _, fd, hx, initS_BadNet, F⟩
    · obtain ⟨fd, F⟩ := c.d.def_ 14 (d := di_BadStep) rfl
      exact ⟨_, _, fd, hx, initS_BadStep, F⟩
    · obtain ⟨fd, F⟩ := c.d.def_ 15 (d := di_BadCut) rfl
      exact ⟨_, _, fd, hx, initS_BadCut, F⟩
    · obtain ⟨fd, F⟩ := c.d.def_ 16 (d := di_BadClaim) rfl
      exact ⟨_, _, fd, hx, initS_BadClaim, F⟩
    · obtain ⟨fd, F⟩ := c.d.def_ 17 (d := di_BadPaper) rfl
      exact ⟨_, _, fd, hx, initS_BadPaper, F⟩
    · obtain ⟨fd, F⟩ := c.d.def_ 18 (d := di_BadLine) rfl
      exact ⟨_, _, fd, hx, initS_BadLine, F⟩
    · obtain ⟨fd, F⟩ := c.d.def_ 19 (d := di_TooMany) rfl
      exact ⟨_, _, fd, hx, initS_TooMany, F⟩
    · obtain ⟨fd, F⟩ := c.d.def_ 20 (d := di_NothingThere) rfl
      exact ⟨_, _, fd, hx, initS_NothingThere, F⟩
theorem facts {P : Program} {w : World} {K : PySem.W.Frag} {h : Heap} {mg : Str → Option Value} {f : Addr} (X : K.In h) (G : h.Ns mainGlobals mg) (hfa : mg ("law" : Str) = some (.ref f)) (c : SaysX faL fnL xsL K) :
    ∃ fd : FuncData, (∀ (s : Shared) (v : Value), BindsTo s fd ⟨[v], []⟩ [("script", v)]) ∧ ∀ base : Heap, K.In base → base.Ns mainGlobals mg → FnOk P w K mg base CX0 5 f fd ["script"] (sp_law K) := by
  have g : ∀ x, x ∈ gloL → mg x = some (.ref (He.ga K x)) := fun x hx => He.glo_ok X G (c.f (x := .glo x) (List.mem_append_left _ (List.mem_map_of_mem hx)))
  have B : Blt mg := blt_of fun x hx => He.free_ok X G (c.f (x := .free x) (List.mem_append_right _ (List.mem_map_of_mem hx)))
  have er := er_of X G c
  obtain ⟨fd__law_mix, F__law_mix⟩ := c.d.def_ 0 (d := d__law_mix) rfl
  obtain ⟨fd__law_box, F__law_box⟩ := c.d.def_ 1 (d := d__law_box) rfl
  obtain ⟨fd__law_draw, F__law_draw⟩ := c.d.def_ 2 (d := d__law_draw) rfl
  obtain ⟨fd__law_alike, F__law_alike⟩ := c.d.def_ 3 (d := d__law_alike) rfl
  obtain ⟨fd__law_text, F__law_text⟩ := c.d.def_ 4 (d := d__law_text) rfl
  obtain ⟨fd__law_alone, F__law_alone⟩ := c.d.def_ 5 (d := d__law_alone) rfl
  obtain ⟨fd__law_numbered, F__law_numbered⟩ := c.d.def_ 6 (d := d__law_numbered) rfl
  obtain ⟨fd__law_worded, F__law_worded⟩ := c.d.def_ 7 (d := d__law_worded) rfl
  obtain ⟨fd__law_raise, F__law_raise⟩ := c.d.def_ 8 (d := d__law_raise) rfl
  obtain ⟨fd__law_caught, F__law_caught⟩ := c.d.def_ 9 (d := d__law_caught) rfl
  obtain ⟨fd__law_beneath, F__law_beneath⟩ := c.d.def_ 10 (d := d__law_beneath) rfl
  obtain ⟨fd_law, F_law⟩ := c.d.def_ 11 (d := d_law) rfl
  have e := hfa.symm.trans (g "law" (by decide))
  cases e
  have b := FunD.bindsA (ps := ["script"]) F_law fun _ _ _ _ _ _ us hl => match us, hl with | [_], _ => rfl
  refine ⟨fd_law, fun s v => b s [v] rfl, fun base _ _ => ?_⟩
  have mix := c_mix (P := P) (w := w) (base := base) F__law_mix (g "_law_mix" (by decide)) B
  have draw := c_draw F__law_draw (g "_law_draw" (by decide)) B mix
  have box := c_box (P := P) (w := w) (base := base) F__law_box (g "_law_box" (by decide)) B
  have text := c_text F__law_text (g "_law_text" (by decide)) B draw
  have alike := c_alike (P := P) (w := w) (base := base) F__law_alike (g "_law_alike" (by decide)) B 2
  have alone := c_alone (P := P) (w := w) (base := base) F__law_alone (g "_law_alone" (by decide)) B er
  have rais := c_raise (P := P) (w := w) (base := base) F__law_raise (g "_law_raise" (by decide)) B er
  exact c_law F_law B er box draw text (c_numbered F__law_numbered (g "_law_numbered" (by decide)) B er alike alone) (c_worded F__law_worded (g "_law_worded" (by decide)) B er alike alone) alike (c_caught F__law_caught (g "_law_caught" (by decide)) B er rais) (c_beneath F__law_beneath (g "_law_beneath" (by decide)) B er rais)
end Cw

set_option maxHeartbeats 0
namespace Cw
open PySem PySem.Spec PyProof.Rows L2
theorem runL (w : World) : HandSHeadRun.RunEq RL (PySem.W.view RL.prog [23]) hkL obL 3000 looseL w := by
  intro os
  kernel_rfl
end Cw
open PySem PySem.W PySem.Calls PyProof.Rows
theorem PySem.Challenge.cw_cutweave_k00_errors_holds : PySem.Challenge.rw_cutweave_k00_errors.Holds := by
  w_on; o_law
  refine HandSHeadRun.head_any (r := OpenLaw.row PySem.Challenge.rw_cutweave_k00_errors) (q := view (OpenLaw.row PySem.Challenge.rw_cutweave_k00_errors).prog [23]) (H := Cw.hkL) (ob := Cw.obL) (M := 3000) (loose := Cw.looseL) (d := HandSHeadRun.topDef (OpenLaw.row PySem.Challenge.rw_cutweave_k00_errors).prog 23) (kwd := []) Cw.obL_eq
    (by kernel_rfl) (fun s => by kernel_rfl) Cw.runL (by kernel_rfl) (by kernel_rfl) (by kernel_rfl) (by rfl) (by first | assumption | decide +kernel) (by decide +kernel) ⟨rfl, rfl, rfl, rfl, rfl, by decide +kernel⟩ ?hw ?hc
  case hw => w_witness2
  case hc =>
    refine L2.walk_ofE (l := PySem.Challenge.rw_cutweave_k00_errors) (n := 63) (k := 5) (x := "script") (CX := L2.CX0) rfl (by decide) (by kernel_rfl) ⟨rfl, by decide, by decide⟩ ?F (fun _ _ _ _ z => z)
    intro w mg fa h Y G hmg0
    obtain ⟨K, KX, c⟩ := Y
    have hmg : mg ("law" : PySem.Str) = some (.ref fa) := by
      have e : (HandSHeadRun.topDef (OpenLaw.row PySem.Challenge.rw_cutweave_k00_errors).prog 23).name = ("law" : PySem.Str) := by kernel_rfl
      rw [← e]
      exact hmg0
    obtain ⟨fd, hb, hF⟩ := Cw.facts (P := (PySem.Challenge.rw_cutweave_k00_errors).prog) (w := w) KX G hmg c
    exact ⟨K, fd, Cw.sp_law K, KX, hb, fun H a ns hl _ hS => ⟨a, ns, rfl, hS, by omega, fun _ => rfl⟩, hF⟩
#print axioms PySem.Challenge.cw_cutweave_k00_errors_holds
