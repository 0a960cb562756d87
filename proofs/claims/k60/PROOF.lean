import PyProof.Rows.All
import Wide.All
import OpenK.AllK
import Wide.FinOn
import PySem.Challenge.RW_matchgift_k60_rows_and_plans_written
import HandS.ForMost
import HandS.IsInst
import HandS.TupAny
import HandS.TupMul
import HandS.Wide
import HandS.Flow
import HandS.RaiseMore
import PyProof.ReprRoads
import KE.GoesNew
import KE.KTupSum
import HandS.Walk
import HandS.WideBits
import PyProof.Rows.BitMore
import KE.BitLaws
import HandS.Zip
import HandS.Steps
import HandS.Text
import KE.IntTextText
import HandS.Comp
import HandS.Exc
import KE.GoesComp
import HandS.ExcOwn
import HandS.EndTab
import HandS.Nested
import KE.SortKeyHeap
import PyProof.TupleOfSeq
import HandS.ExcIs
import HandS.WordsExc
import HandS.Style
import PyProof.Rows.StrRev
import HandS.FStr
set_option Elab.async false
set_option linter.all false
set_option maxRecDepth 100000
set_option maxHeartbeats 2000000
/-! MG: promises of defs that are called where no repr is under way, and repr of data by them. -/
namespace MG
open PySem PySem.Spec PyProof.Rows L2

structure FnG (P : Program) (w : World) (K : PySem.W.Frag) (mg : Str → Option Value) (base : Heap) (k : Nat)
    (f : Addr) (fd : FuncData) (ps : List Str) (sp : Sp) : Prop where
  len : ∀ vs H Q E, sp vs H Q E → vs.length = ps.length
  run : ∀ (A : Around) (outer : List Env) (s : Shared) (H : Hp) (args : Args) (us : List Value) (vs : List V) (Q : VK) (E : XK),
    A.guards = some [] → Room k A → Env0 P w K mg base A outer s H →
    BindsTo s fd args (ps.zip us) → Vals vs us → sp vs H Q E →
    codeAny (model P w) A (.call (.ref f) args) (CR CX0 outer P w H s Q E) s

section
variable {P : Program} {w : World} {K : PySem.W.Frag} {mg : Str → Option Value} {base : Heap}
theorem okG {x qual : Str} {st : Stmt} {f : Addr} {fd : FuncData} {N ps : List Str} {k : Nat} {sp : Sp}
    (F : Fun K x qual st f fd) (S : FnScope N ps (defScope st))
    (hlen : ∀ vs H Q E, sp vs H Q E → vs.length = ps.length)
    (body : ∀ (cdv : Value) (A : Around) (outer : List Env) (s : Shared) (H : Hp) (vs : List V) (Q : VK) (E : XK),
      A.guards = some [] → Room k (A.deeper (envOfC qual (defScope st) s.heap.objs.size f cdv)) → sp vs H Q E →
      ∃ t, PSs (cxOf CX0 P w K mg base N qual (defScope st) f cdv A outer s H E).nox (defBody st) t ∧
        t { nx := fun _ H' => Q .non H', rt := Q } (start N vs) H) :
    FnG P w K mg base (k + 1) f fd ps sp := by
  obtain ⟨oc, od, kV, doc, pm, an, cdv, ct, osl, rfl, lk, hcd⟩ := F.ex
  refine ⟨hlen, ?_⟩
  intro A outer s H args us vs Q E gd room e0 bnd rel want
  have inK : K.In s.heap := e0.mod.kin.keeps (fun b o q => (e0.bs b o q).left)
  have noLim : s.heap.NoLimit := e0.mod.nolimit.keeps (fun b o q => (e0.bs b o q).left)
  refine codeAny_call_function room.depth (inK _ _ lk) rfl S.co S.gen rfl
    (PySem.W.codeRec_of inK hcd) (bnd _ _ _ _ ?_)
  refine wpAny_newFunctionEnv_cells S.kind ?_ ?_
  · rintro ⟨n, v⟩ hy
    rcases S.par n (List.of_mem_zip hy).1 with loc | cel
    · exact Or.inl loc
    · exact Or.inr ⟨cel, PySem.W.cellsFrom_some _ _ _ (Or.inl cel)⟩
  · intro env he s1 x
    subst he
    refine ⟨noLim.keeps x.toInCall.keep, codeAny_func ?_⟩
    obtain ⟨t, ht0, hq⟩ := body cdv A outer s H vs Q E gd (room.deeper _) want
    have ht := ht0.nox
    have I := inv_start (CX := CX0) (N := N) (qual := qual) (f := f) (cd := cdv) (E := E) S room.hd e0 (hlen _ _ _ _ want) rel x
    refine wpAny_mono (ht.run [] s1 (start N vs) H _ I hq) ?_ (fun _ _ z => z)
    intro fl s' hs
    cases fl with
    | ret u =>
      obtain ⟨v, σ', H', J, rv, q⟩ := hs
      exact ⟨v, H', J.os, J.bare, J.base, J.hok, rv, q⟩
    | next =>
      obtain ⟨σ', H', J, q⟩ := hs
      exact ⟨V.non, H', J.os, J.bare, J.base, J.hok, rfl, q⟩
    | brk =>
      obtain ⟨_, _, _, q⟩ := hs
      exact q.elim
    | cont =>
      obtain ⟨_, _, _, q⟩ := hs
      exact q.elim
end

section
variable {X : Cx} {k : Nat} {f : Addr} {fd : FuncData} {ps : List Str} {sp : Sp} {E : XK} {x : Str} {p pos : Pos}
  {e : Expr} {es : List Expr} {t : TA}
end
end MG

namespace MG
open PySem PySem.Spec PyProof.Rows L2

def SysD (h : Heap) : Prop := ∃ mm, h.Ns sysModules mm
end MG

namespace MG
open PySem PySem.Spec PyProof.Rows L2

/-- behind enumerate(v): v's iterator, and who counts beside it -/
abbrev counts (g : Heap) (o : Obj) : Heap :=
  (g.push o).push { cls := .type "enumerate", data := .fields #[.none, .bool false, .ref g.objs.size, rawInt 0, .none, .none] }
/-! ### walks that tell a new tuple each time -/
section told
variable {X : Cx} {pins : List (Addr × Obj)} {σ : L2.St} {H : Hp} {s : Shared} {ours : List Addr} {g : Heap} {tk : Nat}
end told

/-! ### enumerate of a tuple -/
def IteT (K : PySem.W.Frag) (a : Addr) : It :=
  ⟨fun i H => ∃ (xs : List V) (x : V), SqT K H a xs ∧ xs[i]? = some x,
   fun i H v H' => ∃ T x, v = .ref T ∧ H T = none ∧ H' = upd H T (.tup [.int (i : Nat), x]) ∧ ∀ xs, SqT K H a xs → xs[i]? = some x,
   fun i H => ∃ xs : List V, SqT K H a xs ∧ xs.length = i⟩
/-- who counts at e, over the iterator at t of the tuple at a, i told -/
def EnT (a e t : Addr) (i : Nat) (g : Heap) : Prop := (∃ old, IsEnum g e t (i : Nat) old) ∧ g.IsTupleIter t a i ∧ e ≠ t
def iEnumT (K : PySem.W.Frag) (ta : TA) : TI := fun σ H R => ta σ H fun vs H1 => ∃ a xs, vs = [.ref a] ∧ SqT K H1 a xs ∧ R (IteT K a) H1
/-! ### sum of a tuple of whole numbers -/
theorem sumT {X : Cx} (hc : X.calm = true) : CallR X (.builtin "sum") (fun vs H Q => ∃ (a : Addr) (ns : List Int),
    vs = [V.ref a] ∧ SqT X.K H a (ns.map V.int) ∧ Q (.int ns.sum) H) := by
  rintro pins s σ H xs us Q I r ⟨a, ns, rfl, hq, q⟩
  obtain rfl := r.ref1
  obtain ⟨its, rv, p, hz⟩ := I.tuple hq
  have hi : IntsAre its ns := rv.ints
  obtain ⟨ys, hy⟩ := hi.allInts.items
  have hn : numsOf its.toArray.toList = ns := by
    rw [show its.toArray.toList = its from rfl, hi.numsOf]
  have p' : s.heap.IsTuple a its.toArray := p
  rw [hy] at p' hn
  rw [nums_intItems] at hn
  refine PySem.W.ktm_sumG (I.ok.hd hc) p' ?_
  intro h' tk t' hk
  have e : preSum (numAt ys) ys.size = ns.sum := by
    rw [preSum_eq, List.take_of_length_le (by simp), hn]
  rw [e]
  exact ⟨.int ns.sum, H, I.kept hk, ⟨t', rfl⟩, q⟩

/-! ### a text so many times -/
def repText (z : Str) (n : Nat) : Str := ⟨(List.replicate n z.cps).foldl (· ++ ·) #[]⟩
/-! ### a tuple so many times, once and never, too -/
end MG

namespace MG
open PySem PySem.Spec PyProof.Rows L2

def rRepA (K : PySem.W.Frag) : R2 := fun x y H Q => ∃ l k xs, x = .ref l ∧ y = .int k ∧ SqT K H l xs ∧ xs ≠ [] ∧ 0 ≤ k ∧ k ≤ 1000 ∧
  xs.length ≤ 1000 ∧ (k = 1 → Q (.ref l) H) ∧ (k ≠ 1 → ∀ p, H p = none → Q (.ref p) (upd H p (.tup (List.replicate k.toNat xs).flatten)))
/-! ### data: None, truths, whole numbers, texts, lists, tuples, dicts with text keys -/
def kD : Key → PyData
  | .inl i => .int i
  | .inr x => .str x
mutual
inductive Dd (H : Hp) : V → PyData → Prop
  | non : Dd H .non .none
  | bl (b : Bool) : Dd H (.bl b) (.bool b)
  | int (i : Int) : Dd H (.int i) (.int i)
  | str (x : Str) : Dd H (.str x) (.str x)
  | lst {a : Addr} {xs : List V} {ds : List PyData} : H a = some (.lst xs) → DdAll H xs ds → Dd H (.ref a) (.list ds)
  | tup {a : Addr} {xs : List V} {ds : List PyData} : H a = some (.tup xs) → DdAll H xs ds → Dd H (.ref a) (.tuple ds)
  | dic {a : Addr} {kvs : List (Key × V)} {ds : List PyData} : H a = some (.dK kvs) → DdAll H (kvs.map (·.2)) ds →
      Dd H (.ref a) (.dict ((kvs.map fun p => kD p.1).zip ds))
inductive DdAll (H : Hp) : List V → List PyData → Prop
  | nil : DdAll H [] []
  | cons {v : V} {vs : List V} {d : PyData} {ds : List PyData} : Dd H v d → DdAll H vs ds → DdAll H (v :: vs) (d :: ds)
end
theorem DdAll.length {H : Hp} : ∀ {vs : List V} {ds : List PyData}, DdAll H vs ds → ds.length = vs.length
  | [], _, h => by cases h; rfl
  | v :: vs, _, h => by
    cases h with
    | cons _ t => rw [List.length_cons, List.length_cons, t.length]

mutual
theorem Dd.same {H H' : Hp} (s : Same H H') : ∀ {v : V} {d : PyData}, Dd H v d → Dd H' v d
  | _, _, .non => .non
  | _, _, .bl b => .bl b
  | _, _, .int i => .int i
  | _, _, .str x => .str x
  | _, _, .lst e r => .lst (s _ _ e) (DdAll.same s r)
  | _, _, .tup e r => .tup (s _ _ e) (DdAll.same s r)
  | _, _, .dic e r => .dic (s _ _ e) (DdAll.same s r)
theorem DdAll.same {H H' : Hp} (s : Same H H') : ∀ {vs : List V} {ds : List PyData}, DdAll H vs ds → DdAll H' vs ds
  | _, _, .nil => .nil
  | _, _, .cons a b => .cons (Dd.same s a) (DdAll.same s b)
end

section
variable {X : Cx} {pins : List (Addr × Obj)} {σ : L2.St} {H : Hp} {s : Shared}
theorem key_read {P : Program} {w : World} {h : Heap} {k : Key} {v : Value} (e : (mixKind P w).is k v = true) : Reads h v (kD k) [] := by
  rcases keyIs_shape (show keyIs k v = true from e) with ⟨i, t, rfl, rfl⟩ | ⟨x, t, rfl, rfl⟩
  · exact .int i t
  · exact .str x t
theorem pairs_read {P : Program} {w : World} {h : Heap} : ∀ {es : List DictEntry} {vs : List (Key × Value)} {kvs : List (Key × V)},
    Pairs (mixKind P w) es vs → KV kvs vs →
    ReadsAll h (es.map (·.key)) (kvs.map fun p => kD p.1) [] ∧ es.map (·.val) = vs.map (·.2) ∧ Vals (kvs.map (·.2)) (vs.map (·.2))
  | _, _, _, .nil, .nil => ⟨.nil, rfl, .nil⟩
  | _, _, _, .cons h1 h2 t, .cons r rt => by
    obtain ⟨a, b, c⟩ := pairs_read (h := h) t rt
    refine ⟨?_, ?_, .cons r.2 c⟩
    · rw [← r.1] at h1
      exact ReadsAll.cons (key_read h1) a
    · rw [List.map_cons, List.map_cons, b, h2]
theorem zip_fst {α β : Type} {xs : List α} {ys : List β} (h : xs.length = ys.length) : (xs.zip ys).map (·.1) = xs := by
  rw [show (fun x : α × β => x.1) = Prod.fst from rfl]
  exact List.map_fst_zip (Nat.le_of_eq h)
theorem zip_snd {α β : Type} {xs : List α} {ys : List β} (h : xs.length = ys.length) : (xs.zip ys).map (·.2) = ys := by
  rw [show (fun x : α × β => x.2) = Prod.snd from rfl]
  exact List.map_snd_zip (Nat.le_of_eq h.symm)
theorem not_sys {a : Addr} {o : Obj} {vs : Array Value} {n : Nat} (sys : SysD X.base) (I : L2.Inv X pins σ H s) (h : s.heap.get? a = some o) (hc : o.data = .seq vs n) : sysModules ≠ a := by
  rintro rfl
  obtain ⟨mm, u, es, ep, hu, du, _⟩ := sys
  have := I.bk _ _ hu
  rw [h] at this
  cases this
  rw [hc] at du
  cases du
mutual
theorem Dd.reads (sys : SysD X.base) (I : Inv X pins σ H s) : ∀ {v : V} {d : PyData}, Dd H v d → ∀ {u : Value}, RelV v u → ∃ as, Reads s.heap u d as ∧ sysModules ∉ as
  | _, _, .non, _, r => by cases r; exact ⟨_, .none, List.not_mem_nil⟩
  | _, _, .bl b, _, r => by cases r; exact ⟨_, .bool b, List.not_mem_nil⟩
  | _, _, .int i, _, r => by obtain ⟨t, rfl⟩ := r; exact ⟨_, .int i t, List.not_mem_nil⟩
  | _, _, .str x, _, r => by obtain ⟨t, rfl⟩ := r; exact ⟨_, .str x t, List.not_mem_nil⟩
  | _, _, .lst e h, _, r => by
    cases r
    obtain ⟨_, its, n, rv, ho⟩ := I.hok _ _ e
    obtain ⟨as, q, ns⟩ := DdAll.reads sys I h rv
    refine ⟨_, Reads.list ho rfl rfl q, ?_⟩
    intro z
    rcases List.mem_cons.mp z with z | z
    · exact not_sys sys I ho rfl z
    · exact ns z
  | _, _, .tup e h, _, r => by
    cases r
    obtain ⟨_, its, rv, o, ho, hc, n, hd⟩ := I.hok _ _ e
    obtain ⟨as, q, ns⟩ := DdAll.reads sys I h rv
    exact ⟨_, Reads.tuple ho hc hd q, ns⟩
  | _, _, .dic (kvs := kvs) (ds := ds) e h, _, r => by
    cases r
    obtain ⟨_, hne, vs, kv, o, es, ep, ho, hx, hd, _, hp, _⟩ := I.hok _ _ e
    obtain ⟨rk, hv, rvs⟩ := pairs_read (h := s.heap) hp kv
    obtain ⟨bs, q, ns⟩ := DdAll.reads sys I h rvs
    have hl : (kvs.map fun p => kD p.1).length = ds.length := by
      rw [h.length, List.length_map, List.length_map]
    refine ⟨_, Reads.dict (as := []) (bs := bs) ho hx.1 hd ?_ ?_, ?_⟩
    · rw [zip_fst hl]; exact rk
    · rw [zip_snd hl, hv]; exact q
    · intro z
      rcases List.mem_cons.mp (show sysModules ∈ _ :: bs from z) with z | z
      · rw [z] at hne
        simp at hne
      · exact ns z
theorem DdAll.reads (sys : SysD X.base) (I : Inv X pins σ H s) : ∀ {vs : List V} {ds : List PyData}, DdAll H vs ds → ∀ {us : List Value}, Vals vs us → ∃ as, ReadsAll s.heap us ds as ∧ sysModules ∉ as
  | _, _, .nil, _, r => by cases r; exact ⟨_, .nil, List.not_mem_nil⟩
  | _, _, .cons a b, _, r => by
    cases r with
    | cons r1 r2 =>
      obtain ⟨as, q1, n1⟩ := Dd.reads sys I a r1
      obtain ⟨bs, q2, n2⟩ := DdAll.reads sys I b r2
      refine ⟨_, .cons q1 q2, ?_⟩
      intro z
      rcases List.mem_append.mp z with z | z
      · exact n1 z
      · exact n2 z
end
/-- repr(x) -/
theorem call_repr (gd : X.A.guards = some []) (hu : X.A.units + 100 < cLine) (sys : SysD X.base) :
    CallR X (.builtin "repr") (fun xs H Q => ∃ x d, xs = [x] ∧ Dd H x d ∧ d.showable = true ∧ d.depth ≤ 60 ∧ d.shown.length ≤ sizeLine ∧ Q (.str d.shown) H) := by
  rintro pins s σ H xs us Q I r ⟨x, d, rfl, hd, hs, hdep, hz, q⟩
  obtain ⟨u, rfl, r1⟩ := vals1 r
  have fin : ∀ h' v tk, (∀ b o, s.heap.get? b = some o → h'.get? b = some o) →
      EP X pins σ Q (.str d.shown v) { s with heap := h', toks := tk } := fun h' v tk hk => ⟨.str d.shown, H, I.kept hk, ⟨v, rfl⟩, q⟩
  obtain ⟨as, rd, ns⟩ := Dd.reads sys I hd r1
  cases rd with
  | none => exact PySem.P.repr_of_none (fin s.heap s.toks (s.toks + 1) fun _ _ e => e)
  | bool b => exact PySem.P.repr_of_bool (fin s.heap s.toks (s.toks + 1) fun _ _ e => e)
  | int i t => exact PySem.P.repr_of_int (of_decide_eq_true hs) (fin s.heap s.toks (s.toks + 1) fun _ _ e => e)
  | str z t => exact PySem.P.repr_of_str (fin s.heap s.toks (s.toks + 1) fun _ _ e => e) hz
  | list h1 h2 h3 h4 => exact repr_of_reads' (.list h1 h2 h3 h4) hs (fun _ => ns) gd (by omega) (fun _ _ e => e) fin hz
  | tuple h1 h2 h3 h4 => exact repr_of_reads' (.tuple h1 h2 h3 h4) hs (fun _ => ns) gd (by omega) (fun _ _ e => e) fin hz
  | dict h1 h2 h3 h4 h5 => exact repr_of_reads' (.dict h1 h2 h3 h4 h5) hs (fun _ => ns) gd (by omega) (fun _ _ e => e) fin hz
end
end MG

namespace MG
open PySem PySem.Spec PyProof.Rows L2

/-- v is data in H: at most n deep, its repr at most c signs -/
def Da (H : Hp) (n c : Nat) (v : V) : Prop := ∃ d, Dd H v d ∧ d.showable = true ∧ d.depth ≤ n ∧ d.shown.length ≤ c
theorem int_len {i : Int} {k : Nat} (hk : 0 < k) (h : i.natAbs < 2 ^ k) : (Str.ofString (toString i)).length ≤ k + 1 := by
  rw [PySem.ofString_length]
  refine int_text_length_le hk ?_
  by_cases h0 : i.natAbs = 0
  · rw [h0]; exact Nat.lt_of_le_of_lt (by decide) hk
  · exact (Nat.log2_lt h0).mpr h
theorem tupleText_le (ts : List Str) : (tupleText ts).length ≤ piled ts + 3 := by
  unfold tupleText
  rw [strLen_append, strLen_append]
  have h1 : ("(" : Str).length = 1 := rfl
  have h2 : (Str.ofString (if (ts.length == 1) = true then ",)" else ")")).length ≤ 2 := by
    cases ts.length == 1 <;> decide +kernel
  have h3 : (Str.join ", " ts).length ≤ piled ts := by
    cases ts with
    | nil => decide +kernel
    | cons t r =>
      have := join_length_add (t :: r) (List.cons_ne_nil _ _)
      omega
  have h4 : ((if (ts.length == 1) = true then ",)" else ")" : String) : Str).length ≤ 2 := h2
  omega
end MG

namespace MG
open PySem PySem.Spec PyProof.Rows L2

/-! ### f(a=.., b=..): every parameter by its name, in the def's order -/
def KB (K : PySem.W.Frag) (fd : FuncData) (ps : List Str) : Prop :=
  ∀ (s : Shared) (us : List Value), K.In s.heap → us.length = ps.length → BindsTo s fd ⟨[], ps.zip us⟩ (ps.zip us)
def tCallN (sp : Sp) (E : XK) (tk : TA) : TE := fun σ H Q => tk σ H fun zs H2 => sp zs H2 Q E
/-! ### isinstance of data -/
def tyN : PyData → String
  | .none => "NoneType"
  | .bool _ => "bool"
  | .int _ => "int"
  | .str _ => "str"
  | .list _ => "list"
  | .tuple _ => "tuple"
  | .dict _ => "dict"
theorem Dd.ty {K : PySem.W.Frag} {H : Hp} {v : V} {d : PyData} (h : Dd H v d) : TyX K H v (.type (tyN d)) := by
  cases h with
  | non => exact .base .non
  | bl b => exact .base (.bl b)
  | int i => exact .base (.int i)
  | str x => exact .base (.str x)
  | lst e _ => exact .base (.lst e)
  | tup e _ => exact .base (.tup e)
  | dic e _ => exact .base (.dK e)
def isIntD : PyData → Bool
  | .int _ | .bool _ => true
  | _ => false
def isBoolD : PyData → Bool
  | .bool _ => true
  | _ => false
def isTupD : PyData → Bool
  | .tuple _ => true
  | _ => false
theorem kit_int (K : PySem.W.Frag) (d : PyData) : PySem.W.kitOne K (.type (tyN d)) (.type "int") = some (isIntD d) := by
  cases d with
  | none => exact kit_ty (a := "NoneType") (b := "int") (r := false) (by decide +kernel)
  | bool _ => exact kit_ty (a := "bool") (b := "int") (r := true) (by decide +kernel)
  | int _ => exact kit_ty (a := "int") (b := "int") (r := true) (by decide +kernel)
  | str _ => exact kit_ty (a := "str") (b := "int") (r := false) (by decide +kernel)
  | list _ => exact kit_ty (a := "list") (b := "int") (r := false) (by decide +kernel)
  | tuple _ => exact kit_ty (a := "tuple") (b := "int") (r := false) (by decide +kernel)
  | dict _ => exact kit_ty (a := "dict") (b := "int") (r := false) (by decide +kernel)
theorem kit_bool (K : PySem.W.Frag) (d : PyData) : PySem.W.kitOne K (.type (tyN d)) (.type "bool") = some (isBoolD d) := by
  cases d with
  | none => exact kit_ty (a := "NoneType") (b := "bool") (r := false) (by decide +kernel)
  | bool _ => exact kit_ty (a := "bool") (b := "bool") (r := true) (by decide +kernel)
  | int _ => exact kit_ty (a := "int") (b := "bool") (r := false) (by decide +kernel)
  | str _ => exact kit_ty (a := "str") (b := "bool") (r := false) (by decide +kernel)
  | list _ => exact kit_ty (a := "list") (b := "bool") (r := false) (by decide +kernel)
  | tuple _ => exact kit_ty (a := "tuple") (b := "bool") (r := false) (by decide +kernel)
  | dict _ => exact kit_ty (a := "dict") (b := "bool") (r := false) (by decide +kernel)
theorem kit_tuple (K : PySem.W.Frag) (d : PyData) : PySem.W.kitOne K (.type (tyN d)) (.type "tuple") = some (isTupD d) := by
  cases d with
  | none => exact kit_ty (a := "NoneType") (b := "tuple") (r := false) (by decide +kernel)
  | bool _ => exact kit_ty (a := "bool") (b := "tuple") (r := false) (by decide +kernel)
  | int _ => exact kit_ty (a := "int") (b := "tuple") (r := false) (by decide +kernel)
  | str _ => exact kit_ty (a := "str") (b := "tuple") (r := false) (by decide +kernel)
  | list _ => exact kit_ty (a := "list") (b := "tuple") (r := false) (by decide +kernel)
  | tuple _ => exact kit_ty (a := "tuple") (b := "tuple") (r := true) (by decide +kernel)
  | dict _ => exact kit_ty (a := "dict") (b := "tuple") (r := false) (by decide +kernel)
end MG

/-! MG: twos, greatest common parts -/
namespace MG
open PySem

/-- how often 2 parts n (0 of 0) -/
def v2 (n : Nat) : Nat := if h : n = 0 then 0 else if n % 2 = 1 then 0 else v2 (n / 2) + 1
termination_by n
decreasing_by omega
/-- the greatest number that parts all -/
def gl : List Int → Nat
  | [] => 0
  | n :: r => Nat.gcd n.toNat (gl r)
/-- how many are parted by 2 no oftener than t -/
def fewT (t : Nat) (l : List Int) : List Int := l.filter fun n => decide (n > 0) && decide (v2 n.toNat ≤ t)
end MG

/-! MG: runs of two, by doubling by rests -/
namespace MG
/-- both parted by the greatest number that parts each -/
def shares (a b : Nat) : Nat := (a + b) / Nat.gcd a b
def due (a b : Nat) : Option Nat := if shares a b / 2 ^ v2 (shares a b) > 1 then none else some (v2 (shares a b))
section
variable {a b : Nat} (ha : 0 < a) (hb : 0 < b)
include ha hb
end
end MG

namespace K60
open PySem PySem.Spec PyProof.Rows L2 MG
def topS (i : Nat) : Stmt := PySem.Challenge.pw_matchgift_k60_rows_and_plans_written.main.body.getD i (.Pass ⟨0, 0, 0, 0⟩)
abbrev sBox : Stmt := topS 22
abbrev sTake : Stmt := topS 23
abbrev sOf : Stmt := topS 24
abbrev sWhole : Stmt := topS 6
theorem same_upd {H : Hp} {p : Addr} {o : HO} (h : H p = none) : Same H (upd H p o) := fun b x e => by
  rw [upd_ne (ne_of_none e h)]
  exact e
theorem scBox : FnScope ["_law_script", "_law_k", "_law_cell", "_law_own"] ["_law_script", "_law_k"] (defScope sBox) := ⟨rfl, rfl, rfl, by decide +kernel, rfl, by decide +kernel, by decide +kernel⟩
theorem scTake : FnScope ["_law_box_here", "_law_many", "_law_digit", "_law_mixed"] ["_law_box_here", "_law_many"] (defScope sTake) := ⟨rfl, rfl, rfl, by decide +kernel, rfl, by decide +kernel, by decide +kernel⟩
theorem scOf : FnScope ["_law_box_here", "_law_some"] ["_law_box_here", "_law_some"] (defScope sOf) := ⟨rfl, rfl, rfl, by decide +kernel, rfl, by decide +kernel, by decide +kernel⟩

def Box (H : Hp) (b : Addr) (n : Nat) : Prop := ∃ o m c : Int, H b = some (.lst [.int o, .int m, .int c]) ∧ 0 ≤ o ∧ o < 10 ^ 240 ∧ 0 ≤ m ∧ m < 2305843009213693921 ∧ 0 ≤ c ∧ c ≤ n
theorem Box.le {H : Hp} {b : Addr} {n n' : Nat} (h : Box H b n) (hn : n ≤ n') : Box H b n' := by
  obtain ⟨o, m, c, e, h1, h2, h3, h4, h5, h6⟩ := h
  exact ⟨o, m, c, e, h1, h2, h3, h4, h5, by omega⟩

theorem bit (b : Bool) : (-(2 ^ 64) : Int) < (if b = true then 1 else 0) ∧ (if b = true then (1 : Int) else 0) < 2 ^ 64 := by
  cases b <;> decide
theorem modb (x : Int) : (-(2 ^ 64) : Int) < x % 2305843009213693921 ∧ x % 2305843009213693921 < 2 ^ 64 := by
  have h1 := Int.emod_nonneg x (show (2305843009213693921 : Int) ≠ 0 by decide)
  have h2 := Int.emod_lt_of_pos x (show (0 : Int) < 2305843009213693921 by decide)
  omega
theorem own0 (x : Int) (b : Bool) : 0 ≤ x % 10 ^ 240 * (if b = true then 1 else 0) := by
  have := Int.emod_nonneg x (show (10 : Int) ^ 240 ≠ 0 by decide)
  cases b with
  | false => rw [if_neg Bool.false_ne_true]; omega
  | true => rw [if_pos rfl]; omega
theorem own1 (x : Int) (b : Bool) : x % 10 ^ 240 * (if b = true then 1 else 0) < 10 ^ 240 := by
  have := Int.emod_lt_of_pos x (show (0 : Int) < 10 ^ 240 by decide)
  cases b with
  | false => rw [if_neg Bool.false_ne_true, Int.mul_zero]; decide
  | true => rw [if_pos rfl, Int.mul_one]; exact this
section
variable {P : Program} {w : World} {K : PySem.W.Frag} {mg : Str → Option Value} {base : Heap}
def spBox (K : PySem.W.Frag) : Sp := fun vs H Q _ => ∃ (a : Addr) (ns : List Int) (k : Int), vs = [.ref a, .int k] ∧ SqL K H a (ns.map V.int) ∧ 0 ≤ k ∧ k ≤ 63 ∧
  ∀ p H', H p = none → Same H H' → Box H' p 0 → (∀ a, a ≠ p → H' a = H a) → Q (.ref p) H'
theorem ok_box {f : Addr} {fd : FuncData} {k : Nat} (F : Fun K "_law_box" "_law_box" sBox f fd) (ml : mg "len" = none) (mab : mg "abs" = none) (mI : mg "int" = none) :
    FnOk P w K mg base CX0 (k + 1) f fd ["_law_script", "_law_k"] (spBox K) := by
  refine F.ok scBox (fun vs H Q E h => ?_) (fun cdv A outer s H vs Q E hr h => ?_)
  · obtain ⟨a, ns, k, rfl, _⟩ := h
    rfl
  · obtain ⟨a, ns, k, rfl, hS, k0, k1, q⟩ := h
    refine ⟨_, pss_cons (ps_set (i := 2) scBox.nd rfl (.inl rfl) (pe_ifExp
          (pt_cmpR op_lt (pv 1) (pe_callB call_len_seq (by rfl) ml PySem.boot_len (pa_cons (pv 0) pa_nil)) (nomark _))
          (pe_ix ix_list (pv 0) (pv 1) (fun _ _ => rfl)) pe_int))
      (pss_cons (ps_set (i := 3) scBox.nd rfl (.inl rfl) (pe_op op_mul
          (pe_op op_mod (pe_callB call_abs (by rfl) mab (by decide +kernel) (pa_cons (pv 2) pa_nil))
            (pe_op op_mulW (pe_op op_mulW (pe_op op_mulW (pe_op op_pow pe_int pe_int) (pe_op op_pow pe_int pe_int)) (pe_op op_pow pe_int pe_int)) (pe_op op_pow pe_int pe_int)))
          (pe_callTy call_int1 (by rfl) mI (by decide +kernel) (pa_cons (pe_cmpR op_ge (pe_callB call_abs (by rfl) mab (by decide +kernel) (pa_cons (pv 2) pa_nil)) (pe_op op_pow pe_int pe_int) (nomark _)) pa_nil))))
      (pss_one (ps_ret (pe_lst (pa_cons (pv 3) (pa_cons
          (pe_op op_mod (pe_op op_mul (pe_op op_add (pe_op op_add (pe_op op_mod (pv 2) pe_int) (pe_op op_mul (pe_op op_mul pe_int (pv 1)) (pv 1))) pe_int) pe_int) pe_int)
          (pa_cons pe_int pa_nil))))))), ?_⟩
    have fin : ∀ o : Int, 0 ≤ o → o < 10 ^ 240 → ∀ m : Int, 0 ≤ m → m < 2305843009213693921 → ∀ p, H p = none → Q (.ref p) (upd H p (.lst [.int o, .int m, .int 0])) := by
      intro o o0 o1 m m0 m1 p hp
      refine q p _ hp (same_upd hp) ⟨o, m, 0, upd_same, o0, o1, m0, m1, by omega, by omega⟩ ?_
      intro a ha
      exact upd_ne ha
    have kk : (-(2 ^ 64) : Int) < k ∧ k < 2 ^ 64 := ⟨by omega, by omega⟩
    have w1 : CMulW ((10 : Int) ^ (60 : Int).toNat) (10 ^ (60 : Int).toNat) := by unfold CMulW; decide +kernel
    have w2 : CMulW ((10 : Int) ^ (60 : Int).toNat * 10 ^ (60 : Int).toNat) (10 ^ (60 : Int).toNat) := by unfold CMulW; decide +kernel
    have w3 : CMulW ((10 : Int) ^ (60 : Int).toNat * 10 ^ (60 : Int).toNat * 10 ^ (60 : Int).toNat) (10 ^ (60 : Int).toNat) := by unfold CMulW; decide +kernel
    have cp : CPow 10 60 := ⟨by decide, by decide, by decide⟩
    have cq : CPow 10 18 := ⟨by decide, by decide, by decide⟩
    have pos : (0 : Int) < 10 ^ (60 : Int).toNat * 10 ^ (60 : Int).toNat * 10 ^ (60 : Int).toNat * 10 ^ (60 : Int).toNat := by decide +kernel
    have emod : (10 : Int) ^ (60 : Int).toNat * 10 ^ (60 : Int).toNat * 10 ^ (60 : Int).toNat * 10 ^ (60 : Int).toNat = 10 ^ 240 := by decide +kernel
    refine ⟨_, rfl, .ref a, rfl, a, _, rfl, .inl hS, _, _, rfl, rfl, _, rfl, ite2 (fun hk => ?_) (fun hk => ?_)⟩
    · have hk' := of_decide_eq_true hk
      rw [List.length_map] at hk'
      obtain ⟨j, rfl⟩ : ∃ j : Nat, k = (j : Int) := ⟨k.toNat, by omega⟩
      have hj : j < ns.length := by omega
      refine ⟨.ref a, rfl, _, rfl, a, _, (j : Int), .int ns[j], rfl, rfl, hS, atI_nat (by rw [List.getElem?_map, List.getElem?_eq_getElem hj]; rfl), ?_⟩
      generalize ns[j] = cell
      refine ⟨.int cell, rfl, cell, rfl, 10, 60, rfl, rfl, cp, 10, 60, rfl, rfl, cp, _, _, rfl, rfl, w1, 10, 60, rfl, rfl, cp, _, _, rfl, rfl, w2, 10, 60, rfl, rfl, cp, _, _, rfl, rfl, w3, _, _, rfl, rfl, pos, ?_⟩
      refine ⟨.int cell, rfl, cell, rfl, 10, 18, rfl, rfl, cq, _, _, rfl, rfl, .inr ⟨_, rfl, _, _, rfl, rfl, .inr (bit _), ?_⟩⟩
      refine ⟨_, rfl, _, rfl, cell, 2305843009213693951, rfl, rfl, (by show (0 : Int) < 2305843009213693951; decide), _, rfl, 7919, (j : Int), rfl, rfl, .inl ⟨by decide, by decide⟩, _, rfl, _, (j : Int), rfl, rfl, .inr kk, _, _, rfl, rfl, _, 43, rfl, rfl, _, 48271, rfl, rfl, .inr ⟨by decide, by decide⟩, _, _, rfl, rfl, (by show (0 : Int) < 2305843009213693921; decide), ?_⟩
      refine ⟨by show 3 ≤ sizeLine; decide, ?_⟩
      rw [emod]
      exact fin _ (own0 _ _) (own1 _ _) _ (Int.emod_nonneg _ (by decide)) (Int.emod_lt_of_pos _ (by decide))
    · skip
      refine ⟨.int 0, rfl, 0, rfl, 10, 60, rfl, rfl, cp, 10, 60, rfl, rfl, cp, _, _, rfl, rfl, w1, 10, 60, rfl, rfl, cp, _, _, rfl, rfl, w2, 10, 60, rfl, rfl, cp, _, _, rfl, rfl, w3, _, _, rfl, rfl, pos, ?_⟩
      refine ⟨.int 0, rfl, 0, rfl, 10, 18, rfl, rfl, cq, _, _, rfl, rfl, .inr ⟨_, rfl, _, _, rfl, rfl, .inr (bit _), ?_⟩⟩
      refine ⟨_, rfl, _, rfl, 0, 2305843009213693951, rfl, rfl, (by show (0 : Int) < 2305843009213693951; decide), _, rfl, 7919, k, rfl, rfl, .inl ⟨by decide, by decide⟩, _, rfl, _, k, rfl, rfl, .inr kk, _, _, rfl, rfl, _, 43, rfl, rfl, _, 48271, rfl, rfl, .inr ⟨by decide, by decide⟩, _, _, rfl, rfl, (by show (0 : Int) < 2305843009213693921; decide), ?_⟩
      refine ⟨by show 3 ≤ sizeLine; decide, ?_⟩
      rw [emod]
      exact fin _ (own0 _ _) (own1 _ _) _ (Int.emod_nonneg _ (by decide)) (Int.emod_lt_of_pos _ (by decide))

def spTake : Sp := fun vs H Q _ => ∃ b many n, vs = [.ref b, .int many] ∧ Box H b n ∧ n ≤ 1000000 ∧ 1 ≤ many ∧ many ≤ 10 ^ 40 ∧
  ∀ r H', 0 ≤ r → r < many → Box H' b (n + 1) → (∀ a, a ≠ b → H' a = H a) → Q (.int r) H'
theorem ok_take {f : Addr} {fd : FuncData} {k : Nat} (F : Fun K "_law_take" "_law_take" sTake f fd) :
    FnOk P w K mg base CX0 (k + 1) f fd ["_law_box_here", "_law_many"] spTake := by
  refine F.ok scTake (fun vs H Q E h => ?_) (fun cdv A outer s H vs Q E hr h => ?_)
  · obtain ⟨b, many, n, rfl, _⟩ := h
    rfl
  · obtain ⟨b, many, n, rfl, ⟨o, m, c, e, h1, h2, h3, h4, h5, h6⟩, hn, m1, m2, q⟩ := h
    refine ⟨_, pss_cons (ps_if (pt_cmpR op_gt (pe_ix ix_list (pv 0) pe_int (fun _ _ => rfl)) pe_int (nomark _))
        (pss_cons (ps_set (i := 2) scTake.nd rfl (.inl rfl) (pe_op op_mod (pe_ix ix_list (pv 0) pe_int (fun _ _ => rfl)) (pv 1)))
        (pss_cons (ps_asg (pe_op op_fdivW (pe_ix ix_list (pv 0) pe_int (fun _ _ => rfl)) (pv 1)) (pg_sub (pv 0) pe_int set_list))
        (pss_one (ps_ret (pv 2))))) pss_nil)
      (pss_cons (ps_asg (pe_op op_add (pe_ix ix_list (pv 0) pe_int (fun _ _ => rfl)) pe_int) (pg_sub (pv 0) pe_int set_list))
      (pss_cons (ps_set (i := 3) scTake.nd rfl (.inl rfl) (pe_op op_mod (pe_op op_mul
          (pe_op op_add (pe_op op_add (pe_ix ix_list (pv 0) pe_int (fun _ _ => rfl)) (pe_op op_mul (pe_op op_mul pe_int (pe_ix ix_list (pv 0) pe_int (fun _ _ => rfl))) (pe_ix ix_list (pv 0) pe_int (fun _ _ => rfl)))) pe_int) pe_int) pe_int))
      (pss_cons (ps_set (i := 3) scTake.nd rfl (.inl rfl) (pe_op op_mod (pe_op op_mul (pv 3)
          (pe_op op_add (pe_op op_mod (pv 3) pe_int) (pe_op op_mul pe_int (pe_ix ix_list (pv 0) pe_int (fun _ _ => rfl))))) pe_int))
      (pss_one (ps_ret (pe_op op_mod (pe_op op_add (pe_op op_fdiv (pv 3) pe_int) (pe_op op_fdiv (pv 3) pe_int)) (pv 1))))))), ?_⟩
    have hdiv : CDivW o many := wide_div (b := 200) (by omega) (by omega) (by decide) (by decide)
    have hmany : (fun (_ j : Int) => 0 < j) o many := show 0 < many by omega
    refine ⟨.ref b, rfl, b, _, 0, .int o, rfl, rfl, SqL.of e, atI_nat (j := 0) rfl, o, 0, rfl, rfl, _, rfl, ite2 (fun ho => ?_) (fun ho => ?_)⟩
    · refine ⟨.ref b, rfl, b, _, 0, .int o, rfl, rfl, SqL.of e, atI_nat (j := 0) rfl, _, rfl, o, many, rfl, rfl, hmany, ?_⟩
      refine ⟨.ref b, rfl, b, _, 0, .int o, rfl, rfl, SqL.of e, atI_nat (j := 0) rfl, _, rfl, o, many, rfl, rfl, hdiv, .ref b, rfl, b, _, 0, 0, rfl, rfl, e, rfl, ?_⟩
      refine ⟨_, rfl, ?_⟩
      refine q _ _ (Int.emod_nonneg _ (by omega)) (Int.emod_lt_of_pos _ (by omega)) ⟨o / many, m, c, upd_same, ?_, ?_, h3, h4, h5, by omega⟩ ?_
      · exact Int.ediv_nonneg h1 (by omega)
      · exact Int.lt_of_le_of_lt (Int.ediv_le_self _ h1) h2
      · intro a ha
        exact upd_ne ha
    · have hc1 : (-(2 ^ 64) : Int) < c + 1 ∧ c + 1 < 2 ^ 64 := ⟨by omega, by omega⟩
      refine ⟨.ref b, rfl, b, _, 2, .int c, rfl, rfl, SqL.of e, atI_nat (j := 2) rfl, c, 1, rfl, rfl, .ref b, rfl, b, _, 2, 2, rfl, rfl, e, rfl, ?_⟩
      generalize hH : upd H b (HO.lst (List.set [V.int o, V.int m, V.int c] 2 (V.int (c + 1)))) = H2
      have e2 : H2 b = some (.lst [.int o, .int m, .int (c + 1)]) := by rw [← hH]; exact upd_same
      have off : ∀ a, a ≠ b → H2 a = H a := fun a ha => by rw [← hH]; exact upd_ne ha
      refine ⟨.ref b, rfl, b, _, 1, .int m, rfl, rfl, SqL.of e2, atI_nat (j := 1) rfl, .ref b, rfl, b, _, 2, .int (c + 1), rfl, rfl, SqL.of e2, atI_nat (j := 2) rfl, 65537, c + 1, rfl, rfl, .inr hc1, .ref b, rfl, b, _, 2, .int (c + 1), rfl, rfl, SqL.of e2, atI_nat (j := 2) rfl, _, c + 1, rfl, rfl, .inr hc1, m, _, rfl, rfl, _, 11, rfl, rfl, _, 48271, rfl, rfl, .inr ⟨by decide, by decide⟩, _, _, rfl, rfl, (by show (0 : Int) < 2305843009213693921; decide), ?_⟩
      refine ⟨_, rfl, _, rfl, _, 1000003, rfl, rfl, (by show (0 : Int) < 1000003; decide), .ref b, rfl, b, _, 2, .int (c + 1), rfl, rfl, SqL.of e2, atI_nat (j := 2) rfl, 99991, c + 1, rfl, rfl, .inr hc1, _, _, rfl, rfl, _, _, rfl, rfl, .inl (modb _), _, _, rfl, rfl, (by show (0 : Int) < 2305843009213693907; decide), ?_⟩
      refine ⟨_, rfl, _, 97, rfl, rfl, ⟨by decide, by decide⟩, _, rfl, _, 1000033, rfl, rfl, ⟨by decide, by decide⟩, _, _, rfl, rfl, .int many, rfl, _, many, rfl, rfl, (by show (0 : Int) < many; omega), ?_⟩
      refine q _ _ (Int.emod_nonneg _ (by omega)) (Int.emod_lt_of_pos _ (by omega)) ⟨o, m, c + 1, e2, h1, h2, h3, h4, by omega, by omega⟩ off

def spOf : Sp := fun vs H Q _ => ∃ b l n xs, vs = [.ref b, .ref l] ∧ Box H b n ∧ n ≤ 1000000 ∧ H l = some (.lst xs) ∧ b ≠ l ∧ 1 ≤ xs.length ∧ xs.length ≤ 1000 ∧
  ∀ x H', x ∈ xs → Box H' b (n + 1) → (∀ a, a ≠ b → H' a = H a) → Q x H'
theorem ok_of {f fT : Addr} {fd fdT : FuncData} {k : Nat} (F : Fun K "_law_of" "_law_of" sOf f fd) (FT : Fun K "_law_take" "_law_take" sTake fT fdT) (bT : Binds K fdT ["_law_box_here", "_law_many"] [])
    (gT : mg "_law_take" = some (.ref fT)) (ml : mg "len" = none) :
    FnOk P w K mg base CX0 (k + 2) f fd ["_law_box_here", "_law_some"] spOf := by
  have GT : FnOk P w K mg base CX0 (k + 1) fT fdT ["_law_box_here", "_law_many"] spTake := ok_take FT
  refine F.ok scOf (fun vs H Q E h => ?_) (fun cdv A outer s H vs Q E hr h => ?_)
  · obtain ⟨b, l, n, xs, rfl, _⟩ := h
    rfl
  · obtain ⟨b, l, n, xs, rfl, hB, hn, hx, ne, l1, l2, q⟩ := h
    refine ⟨_, pss_one (ps_ret (pe_ix ix_list (pv 1) (pe_call GT hr (by rfl) gT FT.kp bT .nil pass0 (pa_cons (pv 0) (pa_cons
      (pe_callB call_len_seq (by rfl) ml PySem.boot_len (pa_cons (pv 1) pa_nil)) pa_nil))) (fun _ _ => rfl))), ?_⟩
    refine ⟨.ref l, rfl, .ref b, rfl, .ref l, rfl, l, xs, rfl, .inl (SqL.of hx), b, (xs.length : Int), n, rfl, hB, hn, by omega, by omega, ?_⟩
    intro r H' r0 r1 hB' hk
    have hxl : H' l = some (.lst xs) := by rw [hk l (Ne.symm ne)]; exact hx
    obtain ⟨j, rfl⟩ : ∃ j : Nat, r = (j : Int) := ⟨r.toNat, by omega⟩
    have hj : j < xs.length := by omega
    exact ⟨l, xs, (j : Int), xs[j], rfl, rfl, SqL.of hxl, atI_nat (List.getElem?_eq_getElem hj), q _ H' (List.getElem_mem hj) hB' hk⟩
end
/-! ### what stays while the box is drawn from -/
def SX (b : Addr) (H H' : Hp) : Prop := ∀ a o, a ≠ b → H a = some o → H' a = some o
theorem SX.refl (b : Addr) (H : Hp) : SX b H H := fun _ _ _ h => h
theorem SX.trans {b : Addr} {H H1 H2 : Hp} (x : SX b H H1) (y : SX b H1 H2) : SX b H H2 := fun a o n h => y a o n (x a o n h)
theorem SX.of_same {b : Addr} {H H' : Hp} (h : Same H H') : SX b H H' := fun a o _ e => h a o e
theorem SX.of_eq {b : Addr} {H H' : Hp} (h : ∀ a, a ≠ b → H' a = H a) : SX b H H' := fun a o n e => by rw [h a n]; exact e
theorem SX.new {b : Addr} {H H' : Hp} {p : Addr} {o : HO} (x : SX b H H') (hp : H' p = none) : SX b H (upd H' p o) := x.trans (.of_same (same_upd hp))
theorem Box.at {H H' : Hp} {b : Addr} {n : Nat} (h : Box H b n) (e : H' b = H b) : Box H' b n := by
  obtain ⟨o, m, c, z, r⟩ := h
  exact ⟨o, m, c, by rw [e]; exact z, r⟩
theorem Box.new {H : Hp} {b p : Addr} {n : Nat} {o : HO} (h : Box H b n) (hp : H p = none) : Box (upd H p o) b n := by
  obtain ⟨_, _, _, z, _⟩ := id h
  exact h.at (upd_ne (ne_of_none z hp))
theorem scWhole : FnScope ["thing"] ["thing"] (defScope sWhole) := ⟨rfl, rfl, rfl, by decide +kernel, rfl, by decide +kernel, by decide +kernel⟩
theorem Box.get {H : Hp} {b : Addr} {n : Nat} (h : Box H b n) : ∃ o, H b = Option.some o := by
  obtain ⟨_, _, _, z, _⟩ := h
  exact ⟨_, z⟩
/-- a change of what is new -/
theorem SX.set {b p : Addr} {H H' : Hp} {o : HO} (x : SX b H H') (hp : H p = none) : SX b H (upd H' p o) := fun a u na e => by
  rw [upd_ne (ne_of_none e hp)]
  exact x a u na e
theorem Box.set {H : Hp} {b p : Addr} {n : Nat} {o : HO} (h : Box H b n) (hp : b ≠ p) : Box (upd H p o) b n := h.at (upd_ne hp)
def wholeD : PyData → Bool
  | .int _ => true
  | _ => false
section
variable {P : Program} {w : World} {K : PySem.W.Frag} {mg : Str → Option Value} {base : Heap}
def spWhole : Sp := fun vs H Q _ => ∃ x d, vs = [x] ∧ Dd H x d ∧ Q (.bl (wholeD d)) H
theorem ok_whole {f : Addr} {fd : FuncData} {k : Nat} (F : Fun K "is_whole" "is_whole" sWhole f fd) (mi : mg "isinstance" = none) (mI : mg "int" = none) (mB : mg "bool" = none) :
    FnOk P w K mg base CX0 (k + 1) f fd ["thing"] spWhole := by
  refine F.ok scWhole (fun vs H Q E h => ?_) (fun cdv A outer s H vs Q E hr h => ?_)
  · obtain ⟨x, d, rfl, _⟩ := h
    rfl
  · obtain ⟨x, d, rfl, hd, q⟩ := h
    refine ⟨_, pss_one (ps_ret (pe_and
      (pe_callB call_isi (by rfl) mi (by decide +kernel) (pa_cons (pv 0) (pa_cons (pe_bltn (v := .ty "int") (by rfl) mI (by decide +kernel) rfl) pa_nil)))
      (pe_one (pe_not (pe_callB call_isi (by rfl) mi (by decide +kernel) (pa_cons (pv 0) (pa_cons (pe_bltn (v := .ty "bool") (by rfl) mB (by decide +kernel) rfl) pa_nil))))))), ?_⟩
    refine ⟨x, rfl, x, _, _, _, _, rfl, .ty "int", hd.ty, kit_int _ d, isIntD d, rfl, ?_⟩
    cases hb : isIntD d with
    | false =>
      refine iteF ?_
      have : wholeD d = false := by cases d <;> first | rfl | cases hb
      rw [this] at q
      exact q
    | true =>
      refine iteT ?_
      refine ⟨x, rfl, x, _, _, _, _, rfl, .ty "bool", hd.ty, kit_bool _ d, isBoolD d, rfl, ?_⟩
      have : wholeD d = !isBoolD d := by cases d <;> first | rfl | cases hb
      rw [this] at q
      exact q

end
/-- a statement, a word that holds behind it, the rest -/
def tMid (t u : TS) : TS := fun D σ H => ∃ M : L2.St → Hp → Prop, t { D with nx := M } σ H ∧ ∀ σ1 H1, M σ1 H1 → u D σ1 H1
end K60

/-! MG: clauses, zip of tuples in comprehensions, == of rows and of texts -/
namespace MG
open PySem PySem.Spec PyProof.Rows L2
theorem eqvAll_strs : ∀ a b : List Str, PyData.eqvAll (a.map PyData.str) (b.map PyData.str) = decide (a = b)
  | [], [] => rfl
  | [], _ :: _ => rfl
  | _ :: _, [] => rfl
  | x :: a, y :: b => by
    rw [List.map_cons, List.map_cons, PyData.eqvAll, eqvAll_strs a b]
    show ((x == y) && _) = _
    by_cases h : x = y
    · subst h
      rw [show (x == x) = true from beq_self_eq_true x, Bool.true_and]
      by_cases h2 : a = b
      · rw [h2]; simp
      · rw [decide_eq_false h2, decide_eq_false (fun z => h2 (List.cons.inj z).2)]
    · rw [show (x == y) = false from beq_eq_false_iff_ne.mpr h, decide_eq_false (fun z => h (List.cons.inj z).1)]; rfl
theorem dpStrsG {K : PySem.W.Frag} {H : Hp} : ∀ L : List Str, DpAll K H (L.map V.str) (L.map PyData.str)
  | [] => .nil
  | i :: L => .cons (.str i) (dpStrsG L)
theorem lay_strsG : ∀ L : List Str, (∀ x ∈ L, PyData.canLay0 (.str x) = true) → PyData.canLayAll0 (L.map PyData.str) = true
  | [], _ => rfl
  | i :: L, h => by rw [List.map_cons, PyData.canLayAll0, lay_strsG L fun x hx => h x (List.mem_cons_of_mem _ hx), h i List.mem_cons_self]; rfl
theorem depth_strsG : ∀ L : List Str, PyData.depthAll (L.map PyData.str) = 0
  | [] => rfl
  | i :: L => by rw [List.map_cons, PyData.depthAll, depth_strsG L]; rfl
/-! ### those who have something -/
def hold (ns : List Int) (i : Nat) : List Int := ((List.range i).filter fun j => decide (0 < ns.getD j 0)).map fun (j : Nat) => (j : Int)
/-! ### the clauses -/
def hfn (r o : List Int) : Bool := (r.zip o).any fun p => decide (p.1 = 0) && decide (p.2 > 0)
def ms (r : List Int) : Int := (gl r : Nat) / 2 ^ v2 (gl r)
def od (r : List Int) : Nat := (fewT (v2 (gl r)) r).length
def asked (r o : List Int) : List (Str × Bool) :=
  [("sum", decide (o.sum ≠ r.sum)), ("nothing", hfn r o), ("measure", decide (ms o ≠ ms r)), ("twos", decide (v2 (gl o) < v2 (gl r))),
   ("odd ones", decide (v2 (gl o) = v2 (gl r)) && decide (od r < od o)), ("doubled", decide (v2 (gl o) = v2 (gl r)) && decide (od o = (hold o o.length).length))]
def clausesOf (r o : List Int) : List Str := ((asked r o).filter fun p => p.2).map fun p => p.1
def brkT (r o : List Int) : List Str := if r = o then [] else if r.length ≠ o.length then ["places"] else clausesOf r o
def PairsAt (H : Hp) (ts : List Addr) (cs : List (Str × Bool)) : Prop := ts.length = cs.length ∧ ∀ (i : Nat) (t : Addr) (c : Str × Bool), ts[i]? = some t → cs[i]? = some c → H t = some (.tup [.str c.1, .bl c.2])
end MG

/-! MG: comprehensions of two clauses over tuples; deeds -/
namespace MG
open PySem PySem.Spec PyProof.Rows L2
/-! ### a deed -/
def deed (r : List Int) (i j : Nat) : List Int := (r.set i (r.getD i 0 - r.getD j 0)).set j (2 * r.getD j 0)
structure MayG (r : List Int) (i j : Nat) : Prop where
  hi : i < r.length
  hj : j < r.length
  ne : i ≠ j
  pj : 0 < r.getD j 0
  ge : r.getD j 0 ≤ r.getD i 0
/-! ### counts as sums -/
def oddF (t : Nat) (n : Int) : Int := if n % 2 ^ (t + 1) = 0 then 0 else 1
def posF (n : Int) : Int := if 0 < n then 1 else 0
/-! ### what one deed or more leave -/
structure Lv (r o : List Int) : Prop where
  len : o.length = r.length
  sum : o.sum = r.sum
  noth : ∀ p, r.getD p 0 = 0 → o.getD p 0 = 0
  ms : MG.ms o = MG.ms r
  tw : v2 (gl r) ≤ v2 (gl o)
  od : v2 (gl o) = v2 (gl r) → MG.od o ≤ MG.od r
  dbl : v2 (gl o) = v2 (gl r) → MG.od o < (hold o o.length).length
  nn : ∀ n ∈ o, 0 ≤ n
end MG

/-! MG: data of rows, of places and of deeds; lists of pairs in the heap -/
namespace MG
open PySem PySem.Spec PyProof.Rows L2
def wholeD : PyData → Bool
  | .int _ => true
  | _ => false
def hasD (ns : List Int) : PyData → Bool
  | .int p => decide (0 ≤ p) && (decide (p < ns.length) && decide (0 < ns.getD p.toNat 0))
  | _ => false
def twoD (ns : List Int) : PyData → PyData → Bool
  | .int p, .int q => hasD ns (.int p) && (hasD ns (.int q) && decide (p ≠ q))
  | _, _ => false
def giveD (ns : List Int) : PyData → PyData → Bool
  | .int p, .int q => twoD ns (.int p) (.int q) && decide (ns.getD q.toNat 0 ≤ ns.getD p.toNat 0)
  | _, _ => false
/-! ### pairs in the heap -/
def prO (c : Int × Int) : Option HO := some (.tup [.int c.1, .int c.2])
def PrAt (H : Hp) (ts : List Addr) (cs : List (Int × Int)) : Prop := ts.map H = cs.map prO
def prD (c : Int × Int) : PyData := .tuple [.int c.1, .int c.2]
/-! ### all deeds -/
def rowD (ns : List Int) (hs : List Int) (i : Int) : List (Int × Int) := (hs.filter fun j => giveD ns (.int i) (.int j)).map fun j => (i, j)
def dlL (ns hs us : List Int) : List (Int × Int) := us.flatMap (rowD ns hs)
def dl (ns : List Int) : List (Int × Int) := dlL ns (hold ns ns.length) (hold ns ns.length)
end MG

/-! MG: readings of comprehensions that laws use often, for any slots -/
namespace MG
open PySem PySem.Spec PyProof.Rows L2
def cnt (ns : List Int) : Nat := (ns.filter fun n => decide (0 < n)).length
/-! ### lists of rows as data -/
def rowDt (r : List Int) : PyData := .tuple (r.map PyData.int)
/-! ### good rows -/
structure Gd (ns : List Int) : Prop where
  nn : ∀ n ∈ ns, 0 ≤ n
  sum : ns.sum < 2 ^ 200
  len : ns.length ≤ 30
  pos : ∃ n ∈ ns, 0 < n
end MG

namespace K60
open PySem PySem.Spec PyProof.Rows L2 MG
abbrev sRow : Stmt := topS 7
theorem scRow : FnScope ["thing", "amount"] ["thing"] (defScope sRow) := ⟨rfl, rfl, rfl, by decide +kernel, rfl, by decide +kernel, by decide +kernel⟩
def nnD : PyData → Bool
  | .int i => decide (i ≥ 0)
  | _ => false
def sumD : List PyData → Int
  | [] => 0
  | .int i :: r => i + sumD r
  | _ :: r => sumD r
def rowL (ds : List PyData) : Bool := (decide (1 ≤ ds.length) && decide (ds.length ≤ 12)) && (ds.all nnD && (decide (0 < sumD ds) && decide (sumD ds < 10 ^ 30)))
def rowD : PyData → Bool
  | .tuple ds => rowL ds
  | _ => false
theorem DdAll_get {H : Hp} : ∀ {vs : List V} {ds : List PyData}, DdAll H vs ds → ∀ {i : Nat} {x : V}, vs[i]? = some x → ∃ d, ds[i]? = some d ∧ Dd H x d
  | _, _, .nil, _, _, h => by simp at h
  | _, _, .cons a b, 0, _, h => ⟨_, rfl, by cases h; exact a⟩
  | _, _, .cons a b, i + 1, _, h => DdAll_get b h
theorem ints_of {H : Hp} : ∀ {vs : List V} {ds : List PyData}, DdAll H vs ds → ds.all nnD = true →
    ∃ ns : List Int, vs = ns.map V.int ∧ ds = ns.map PyData.int ∧ (∀ n ∈ ns, 0 ≤ n) ∧ sumD ds = ns.sum
  | _, _, .nil, _ => ⟨[], rfl, rfl, fun _ h => absurd h List.not_mem_nil, rfl⟩
  | _, _, .cons a b, h => by
    rw [List.all_cons, Bool.and_eq_true] at h
    obtain ⟨ns, e1, e2, e3, e4⟩ := ints_of b h.2
    cases a with
    | int i =>
      have hi : 0 ≤ i := of_decide_eq_true h.1
      refine ⟨i :: ns, by rw [List.map_cons, e1], by rw [List.map_cons, e2], ?_, ?_⟩
      · intro n hn
        rcases List.mem_cons.mp hn with rfl | hn
        · exact hi
        · exact e3 n hn
      · show i + sumD _ = _
        rw [e4, List.sum_cons]
    | _ => exact absurd h.1 Bool.false_ne_true

section
variable {P : Program} {w : World} {K : PySem.W.Frag} {mg : Str → Option Value} {base : Heap}
def spRow : Sp := fun vs H Q _ => ∃ x d, vs = [x] ∧ Dd H x d ∧ ∀ H', Same H H' → Q (.bl (rowD d)) H'
theorem ok_row {f fW : Addr} {fd fdW : FuncData} {k : Nat} {t1 t2 : Tok} (F : Fun K "is_row" "is_row" sRow f fd) (FW : Fun K "is_whole" "is_whole" sWhole fW fdW) (bW : Binds K fdW ["thing"] [])
    (gW : mg "is_whole" = some (.ref fW)) (gM : mg "MOST_PLACES" = some (.int 12 t1)) (gA : mg "ABOVE_THIRTY_FIGURES" = some (.int (10 ^ 30) t2))
    (mi : mg "isinstance" = none) (mI : mg "int" = none) (mB : mg "bool" = none) (mT : mg "tuple" = none) (mA : mg "all" = none) (mS : mg "sum" = none) (ml : mg "len" = none) :
    FnOk P w K mg base CX0 (k + 2) f fd ["thing"] spRow := by
  have GW : FnOk P w K mg base CX0 (k + 1) fW fdW ["thing"] spWhole := ok_whole FW mi mI mB
  refine F.ok scRow (fun vs H Q E h => ?_) (fun cdv A outer s H vs Q E hr h => ?_)
  · obtain ⟨x, d, rfl, _⟩ := h
    rfl
  · obtain ⟨x, d, rfl, hd, q⟩ := h
    refine ⟨_, pss_cons (ps_if (PW.pt (pw_or
        (pt_not (pt_val (pe_callB call_isi (by rfl) mi (by decide +kernel) (pa_cons (pv 0) (pa_cons (pe_bltn (v := .ty "tuple") (by rfl) mT (by decide +kernel) rfl) pa_nil)))))
        (pw_or1 (pt_not (pt_chain op_le op_le pe_int (pe_callB call_len_seq (by rfl) ml PySem.boot_len (pa_cons (pv 0) pa_nil)) (pe_glob (v := .int 12) (by rfl) gM ⟨_, rfl⟩))))))
        (pss_one (ps_ret pe_bl)) pss_nil)
      (pss_cons (ps_if (pt_not (pt_val (pe_callB (cr_all rfl) (by rfl) mA (by decide +kernel) (pa_cons
          (pe_lc (own := [("amount", 1)]) (g := gName 1) (tt := tYes) rfl scRow.nd (pi_tup (pv 0)) (blkOk_by (N := ["thing", "amount"]) (sc := defScope sRow) (by decide +kernel))
            (fun _ _ _ _ _ => pg_name (i := 1) scRow.nd rfl (Or.inl rfl)) (fun _ _ _ _ _ => pts_nil)
            (fun _ _ _ _ _ => pe_and (pe_call GW hr (by rfl) gW FW.kp bW .nil pass0 (pa_cons (pv 1) pa_nil)) (pe_one (pe_cmp (pc_ge (pv 1) pe_int) rfl))))
          pa_nil))))
        (pss_one (ps_ret pe_bl)) pss_nil)
      (pss_one (ps_ret (pe_chain op_lt op_lt pe_int (pe_callB (sumT rfl) (by rfl) mS (by decide +kernel) (pa_cons (pv 0) pa_nil)) (pe_glob (v := .int (10 ^ 30)) (by rfl) gA ⟨_, rfl⟩))))), ?_⟩
    refine ⟨x, rfl, x, _, _, _, _, rfl, .ty "tuple", hd.ty, kit_tuple _ d, isTupD d, rfl, ?_⟩
    cases ht : isTupD d with
    | false =>
      have e0 : rowD d = false := by cases d <;> first | rfl | cases ht
      refine iteT (iteT ?_)
      have := q H (Same.refl H)
      rw [e0] at this
      exact this
    | true =>
      cases hd with
      | @tup a xs ds e r =>
        refine iteF ?_
        have hS : SqT K H a xs := SqT.of e
        have hl := r.length
        refine ⟨.ref a, rfl, a, xs, rfl, .inr hS, ?_⟩
        have fail : rowL ds = false → Q (.bl false) H := fun z => by
          have := q H (Same.refl H)
          rw [show rowD (.tuple ds) = false from z] at this
          exact this
        refine ⟨1, (xs.length : Int), rfl, rfl, _, rfl, ite2 (fun h1 => ?_) (fun h1 => ?_)⟩
        rotate_left
        · refine ⟨false, rfl, iteT (fail ?_)⟩
          have n1 : ¬ 1 ≤ ds.length := fun z => h1 (decide_eq_true (by rw [hl] at z; omega))
          unfold rowL
          rw [decide_eq_false n1]
          rfl
        refine ⟨(xs.length : Int), 12, rfl, rfl, decide ((xs.length : Int) ≤ 12), rfl, ?_⟩
        cases h2 : decide ((xs.length : Int) ≤ 12) with
        | false =>
          refine iteT (fail ?_)
          have n2 : ¬ ds.length ≤ 12 := fun z => of_decide_eq_false h2 (by rw [hl] at z; omega)
          unfold rowL
          rw [decide_eq_false n2, Bool.and_false]
          rfl
        | true =>
          refine iteF ?_
          have len1 : 1 ≤ ds.length := by have := of_decide_eq_true h1; omega
          have len2 : ds.length ≤ 12 := by have := of_decide_eq_true h2; omega
          have rw1 : rowL ds = (ds.all nnD && (decide (0 < sumD ds) && decide (sumD ds < 10 ^ 30))) := by
            unfold rowL
            rw [decide_eq_true len1, decide_eq_true len2]
            rfl
          refine ⟨.ref a, rfl, a, rfl, ⟨_, hS⟩, fun D nD => ?_⟩
          have sD : Same H (upd H D (.lst [])) := same_upd nD
          refine lc_tup (K := K) (a := a) (xs := xs) (fun i H' => Same H H' ∧ H' D = some (.lst ((ds.take i).map fun d => V.bl (nnD d)))) ⟨sD, upd_same⟩ ?_ ?_ ?_
          · intro i H' _ h
            exact SqT.of (h.1 _ _ e)
          · rintro i y H' hy ⟨sm, hD⟩
            obtain ⟨dy, hdy, hd'⟩ := DdAll_get r hy
            have step : ∀ b : Bool, b = nnD dy → ∃ acc, H' D = some (.lst acc) ∧ acc.length < sizeLine ∧ Same H (upd H' D (.lst (acc ++ [V.bl b]))) ∧
                upd H' D (.lst (acc ++ [V.bl b])) D = some (.lst ((ds.take (i + 1)).map fun d => V.bl (nnD d))) := by
              rintro b rfl
              refine ⟨_, hD, ?_, ?_, ?_⟩
              · rw [List.length_map, List.length_take]
                exact small1000 (by omega)
              · intro c o hc
                rw [upd_ne (ne_of_none hc nD)]
                exact sm c o hc
              · rw [upd_same, List.take_add_one, hdy, List.map_append]
                rfl
            refine ⟨rfl, y, rfl, y, dy, rfl, hd'.same sm, wholeD dy, rfl, ?_⟩
            cases hw : wholeD dy with
            | false => exact iteF (step false (by cases dy <;> first | rfl | cases hw))
            | true =>
              cases hd' with
              | int n => exact iteT ⟨_, rfl, n, 0, rfl, rfl, step _ rfl⟩
              | _ => cases hw
          · rintro H' ⟨sm, hD⟩
            rw [← hl, List.take_length] at hD
            have hbs : SqL K H' D ((ds.map nnD).map V.bl) := .inl (.inl (by rw [List.map_map]; exact hD))
            refine ⟨D, ds.map nnD, rfl, hbs, _, rfl, ?_⟩
            have eall : (ds.map nnD).all id = ds.all nnD := by rw [List.all_map]; rfl
            rw [eall]
            cases ha : ds.all nnD with
            | false =>
              refine iteT ?_
              have := q H' sm
              rw [show rowD (.tuple ds) = false by show rowL ds = false; rw [rw1, ha]; rfl] at this
              exact this
            | true =>
              refine iteF ?_
              obtain ⟨ns, rfl, ens, _, esum⟩ := ints_of r ha
              have fin : ∀ b : Bool, b = (decide (0 < sumD ds) && decide (sumD ds < 10 ^ 30)) → Q (.bl b) H' := by
                rintro b rfl
                have := q H' sm
                rw [show rowD (.tuple ds) = (decide (0 < sumD ds) && decide (sumD ds < 10 ^ 30)) by show rowL ds = _; rw [rw1, ha]; rfl] at this
                exact this
              refine ⟨.ref a, rfl, a, ns, rfl, SqT.of (sm _ _ e), 0, ns.sum, rfl, rfl, decide (0 < ns.sum), rfl, ?_⟩
              rw [← esum]
              cases h3 : decide (0 < sumD ds) with
              | false => exact iteF (fin _ (by rw [h3]; rfl))
              | true => exact iteT ⟨sumD ds, 10 ^ 30, rfl, rfl, fin _ (by rw [h3]; rfl)⟩
      | _ => cases ht
end
end K60

namespace K60
open PySem PySem.Spec PyProof.Rows L2 MG
abbrev sOs : Stmt := topS 11
theorem scOs : FnScope ["text", "signs", "sign"] ["text", "signs"] (defScope sOs) := ⟨rfl, rfl, rfl, by decide +kernel, rfl, by decide +kernel, by decide +kernel⟩
section
variable {P : Program} {w : World} {K : PySem.W.Frag} {mg : Str → Option Value} {base : Heap}
def sgB (z y : Str) : Bool := (z.cps.toList.map fun c => decide (c ∈ y.cps.toList)).all id
def spOs : Sp := fun vs H Q _ => ∃ (z y : Str), vs = [.str z, .str y] ∧ z.length ≤ 1000 ∧ ∀ H', Same H H' → Q (.bl (sgB z y)) H'
theorem ok_os {f : Addr} {fd : FuncData} {k : Nat} (F : Fun K "is_of_signs" "is_of_signs" sOs f fd) (m_all : mg "all" = none) : FnOk P w K mg base CX0 (k + 1) f fd ["text", "signs"] spOs := by
  refine F.ok scOs (fun vs H Q E h => ?_) (fun cdv A outer s H vs Q E hr h => ?_)
  · obtain ⟨z, y, rfl, _⟩ := h
    rfl
  · obtain ⟨z, y, rfl, lz, q⟩ := h
    refine ⟨_, pss_one (ps_ret (pe_callB (cr_all rfl) (by rfl) m_all (by decide +kernel) (pa_cons (pe_lc (own := [("sign", 2)]) (g := gName 2) (tt := tYes) rfl scOs.nd (pi_str (pv 0)) (blkOk_by (N := ["text", "signs", "sign"]) (sc := defScope sOs) (by decide +kernel)) (fun _ _ _ _ _ => pg_name (i := 2) scOs.nd rfl (Or.inl rfl)) (fun _ _ _ _ _ => pts_nil) (fun _ _ _ _ _ => pe_cmpR op_inS (pv 2) (pv 1) (by rfl))) pa_nil))), ?_⟩
    refine ⟨_, rfl, z, rfl, fun D nD => ?_⟩
    refine lc_it (walk_str (z := z)) (fun m G => Same H G ∧ G D = some (.lst (((z.cps.toList.take m).map fun c => decide (c ∈ y.cps.toList)).map V.bl))) ⟨same_upd nD, upd_same⟩ ?_ ?_ ?_
    · intro m G _ _
      trivial
    · rintro m u G G' hm ⟨sm, hD⟩ ⟨rfl, c, hc, rfl⟩
      refine ⟨rfl, _, rfl, _, rfl, c, y, rfl, rfl, _, hD, by rw [List.length_map, List.length_map, List.length_take, sizeLine_eq]; have : z.cps.size ≤ 1000 := lz; omega, fun b o e => by rw [upd_ne (ne_of_none e nD)]; exact sm b o e, ?_⟩
      rw [upd_same, List.take_add_one, Array.getElem?_toList, hc, List.map_append, List.map_append]
      rfl
    rintro G ⟨sm, hD⟩
    rw [show z.cps.size = z.cps.toList.length from Array.length_toList.symm, List.take_length] at hD
    exact ⟨D, _, rfl, SqL.of hD, q G sm⟩
end
end K60

/-! MXa: numbers, rows, runs and plans as they are written, on lists of signs -/
namespace TX
open PySem TL
theorem pre1 (s c : Nat) (r : List Nat) : pre [s] (c :: r) = decide (c = s) := by
  show ([c] == [s]) = _
  by_cases h : c = s
  · subst h; simp
  · simp [h]
/-- cut at each sign s -/
def sp (s : Nat) : List Nat → List Nat → List (List Nat)
  | acc, [] => [acc]
  | acc, c :: r => if c = s then acc :: sp s [] r else sp s (acc ++ [c]) r
/-- ahead of the first sign s, and behind it -/
def pa (s : Nat) : List Nat → List Nat → Option (List Nat × List Nat)
  | _, [] => none
  | acc, c :: r => if c = s then some (acc, r) else pa s (acc ++ [c]) r
theorem sp_cons (s c : Nat) (r acc : List Nat) : sp s acc (c :: r) = if c = s then acc :: sp s [] r else sp s (acc ++ [c]) r := rfl
theorem pa_cons (s c : Nat) (r acc : List Nat) : pa s acc (c :: r) = if c = s then some (acc, r) else pa s (acc ++ [c]) r := rfl
theorem spl_sp (s : Nat) : ∀ (l acc : List Nat), spl [s] 0 acc l = sp s acc l
  | [], acc => spl_nil _ _ _
  | c :: r, acc => by
    rw [sp_cons]
    by_cases h : c = s
    · rw [if_pos h, spl_hit (by rw [pre1, decide_eq_true h]), ← spl_sp s r []]; rfl
    · rw [if_neg h, spl_miss (by rw [pre1, decide_eq_false h]), spl_sp s r]
theorem par_pa (s : Nat) : ∀ (l acc : List Nat), par [s] acc l = pa s acc l
  | [], acc => rfl
  | c :: r, acc => by
    rw [pa_cons]
    by_cases h : c = s
    · rw [if_pos h, par_hit (by rw [pre1, decide_eq_true h])]; rfl
    · rw [if_neg h, par_miss (by rw [pre1, decide_eq_false h]), par_pa s r]
theorem pa_cases (s : Nat) : ∀ (l acc : List Nat), (pa s acc l = none ∧ sp s acc l = [acc ++ l] ∧ s ∉ l) ∨ ∃ a' b, pa s acc l = some (acc ++ a', b) ∧ sp s acc l = (acc ++ a') :: sp s [] b ∧ s ∉ a' ∧ l = a' ++ s :: b
  | [], acc => .inl ⟨rfl, by rw [List.append_nil]; rfl, List.not_mem_nil⟩
  | c :: r, acc => by
    rw [pa_cons, sp_cons]
    by_cases h : c = s
    · rw [if_pos h, if_pos h]
      exact .inr ⟨[], r, by rw [List.append_nil], by rw [List.append_nil], List.not_mem_nil, by rw [h]; rfl⟩
    · rw [if_neg h, if_neg h]
      rcases pa_cases s r (acc ++ [c]) with ⟨h1, h2, h3⟩ | ⟨a', b, h1, h2, h3, h4⟩
      · exact .inl ⟨h1, by rw [h2, List.append_assoc]; rfl, by simp only [List.mem_cons, not_or]; exact ⟨fun z => h z.symm, h3⟩⟩
      · refine .inr ⟨c :: a', b, by rw [h1, List.append_assoc]; rfl, by rw [h2, List.append_assoc]; rfl, by simp only [List.mem_cons, not_or]; exact ⟨fun z => h z.symm, h3⟩, by rw [h4]; rfl⟩
theorem sp_ne (s : Nat) : ∀ (l acc : List Nat), 1 ≤ (sp s acc l).length
  | [], _ => Nat.le_refl 1
  | c :: r, acc => by
    rw [sp_cons]
    split
    · rw [List.length_cons]; omega
    · exact sp_ne s r _
theorem sp_most (s : Nat) : ∀ (l acc : List Nat), (sp s acc l).length ≤ l.length + 1
  | [], _ => Nat.le_refl 1
  | c :: r, acc => by
    rw [sp_cons]
    split
    · rw [List.length_cons, List.length_cons]; have := sp_most s r []; omega
    · rw [List.length_cons]; have := sp_most s r (acc ++ [c]); omega
theorem sp_short (s : Nat) : ∀ (l acc : List Nat), ∀ p ∈ sp s acc l, p.length ≤ acc.length + l.length
  | [], acc, p, h => by
    rw [List.mem_singleton.mp h]; exact Nat.le_add_right _ _
  | c :: r, acc, p, h => by
    rw [sp_cons] at h
    rw [List.length_cons]
    split at h
    · rcases List.mem_cons.mp h with e | h
      · rw [e]; omega
      · have := sp_short s r [] p h
        rw [List.length_nil] at this
        omega
    · have := sp_short s r _ p h
      rw [List.length_append, List.length_singleton] at this
      omega
theorem sp_sub (s : Nat) : ∀ (l acc : List Nat), ∀ p ∈ sp s acc l, ∀ c ∈ p, c ∈ acc ∨ c ∈ l
  | [], acc, p, h, c, hc => by
    rw [List.mem_singleton.mp h] at hc
    exact .inl hc
  | d :: r, acc, p, h, c, hc => by
    rw [sp_cons] at h
    split at h
    · rcases List.mem_cons.mp h with e | h
      · rw [e] at hc; exact .inl hc
      · rcases sp_sub s r [] p h c hc with z | z
        · exact absurd z List.not_mem_nil
        · exact .inr (List.mem_cons_of_mem _ z)
    · rcases sp_sub s r _ p h c hc with z | z
      · rcases List.mem_append.mp z with z | z
        · exact .inl z
        · exact .inr (by rw [List.mem_singleton.mp z]; exact List.mem_cons_self)
      · exact .inr (List.mem_cons_of_mem _ z)
/-! ### numbers -/
def isNum (l : List Nat) : Bool := decide (1 ≤ l.length ∧ l.length ≤ 30) && (l.all (fun c => decide (48 ≤ c ∧ c ≤ 57)) && (decide (l = [48]) || !decide (l.head? = some 48)))
def numW (l : List Nat) : Option Nat := if isNum l = true then some (NumText.digitsVal l) else none
theorem val_lt : ∀ (l : List Nat) (a : Nat), NumText.AllDigits l → l.foldl (fun acc c => acc * 10 + (c - 48)) a < (a + 1) * 10 ^ l.length
  | [], a, _ => by rw [List.length_nil, Nat.pow_zero, Nat.mul_one]; exact Nat.lt_succ_self a
  | c :: r, a, h => by
    have := val_lt r (a * 10 + (c - 48)) h.tail
    have hc := h.head
    rw [List.foldl_cons, List.length_cons, Nat.pow_succ]
    refine Nat.lt_of_lt_of_le this ?_
    have h1 : a * 10 + (c - 48) + 1 ≤ (a + 1) * 10 := by omega
    refine Nat.le_trans (Nat.mul_le_mul_right _ h1) (Nat.le_of_eq ?_)
    rw [Nat.mul_assoc, Nat.mul_comm 10]
theorem isNum_iff {l : List Nat} : isNum l = true ↔ (1 ≤ l.length ∧ l.length ≤ 30) ∧ NumText.AllDigits l ∧ (l = [48] ∨ ¬ l.head? = some 48) := by
  unfold isNum
  rw [Bool.and_eq_true, Bool.and_eq_true, Bool.or_eq_true, decide_eq_true_iff, decide_eq_true_iff, Bool.not_eq_true', decide_eq_false_iff_not, List.all_eq_true]
  refine and_congr Iff.rfl (and_congr ⟨fun h c hc => of_decide_eq_true (h c hc), fun h c hc => decide_eq_true (h c hc)⟩ Iff.rfl)
theorem numW_some {l : List Nat} {n : Nat} (h : numW l = some n) : isNum l = true ∧ n = NumText.digitsVal l ∧ n < 10 ^ 30 ∧ ∀ c ∈ l, 48 ≤ c ∧ c ≤ 57 := by
  unfold numW at h
  by_cases e : isNum l = true
  · rw [if_pos e] at h
    cases h
    obtain ⟨h1, h2, h3⟩ := isNum_iff.mp e
    refine ⟨e, rfl, ?_, h2⟩
    have := val_lt l 0 h2
    unfold NumText.digitsVal
    refine Nat.lt_of_lt_of_le this ?_
    rw [Nat.zero_add, Nat.one_mul]
    exact Nat.pow_le_pow_right (by decide) h1.2
  · rw [if_neg e] at h; cases h
theorem numW_nil : numW [] = none := by decide
/-- all or none -/
def allN {α : Type} : List (Option α) → Option (List α)
  | [] => some []
  | none :: _ => none
  | some a :: r => (allN r).map (a :: ·)
theorem allN_some {α : Type} : ∀ {l : List (Option α)} {r : List α}, allN l = some r ↔ l = r.map some
  | [], r => by cases r <;> simp [allN]
  | none :: l, r => by cases r <;> simp [allN]
  | some a :: l, r => by
    unfold allN
    cases r with
    | nil => simp
    | cons b r =>
      rw [Option.map_eq_some_iff]
      constructor
      · rintro ⟨x, h1, h2⟩
        obtain ⟨e1, e2⟩ := List.cons.inj h2
        rw [allN_some.mp h1, e1, e2]; rfl
      · intro h
        rw [List.map_cons] at h
        obtain ⟨e1, e2⟩ := List.cons.inj h
        cases e1
        exact ⟨r, allN_some.mpr e2, rfl⟩
theorem allN_none {α : Type} {l : List (Option α)} (h : none ∈ l) : allN l = none := by
  cases e : allN l with
  | none => rfl
  | some r =>
    rw [allN_some.mp e] at h
    obtain ⟨x, _, hx⟩ := List.mem_map.mp h
    cases hx
/-! ### rows, runs, plans -/
def rowT (l : List Nat) : Option (List Nat) := match allN ((sp 32 [] l).map numW) with
  | some ns => if ns.length ≤ 12 ∧ 0 < ns.sum ∧ ns.sum < 10 ^ 30 then some ns else none
  | none => none
def threeW (g t b : List Nat) : Option (Nat × Nat × Nat) := match numW g, numW t, numW b with
  | some i, some j, some k => if i ≠ j ∧ i < 12 ∧ j < 12 then some (i, j, k) else none
  | _, _, _ => none
def runT (l : List Nat) : Option (Nat × Nat × Nat) := match pa 42 [] l with
  | some (a, b) => match pa 62 [] a with
    | some (g, t) => threeW g t b
    | none => none
  | none => none
def planT (l : List Nat) : Option (List (Nat × Nat × Nat)) := if sp 32 [] l = [[45]] then some [] else allN ((sp 32 [] l).map runT)
theorem three_none1 {g t b : List Nat} (h : numW g = none) : threeW g t b = none := by unfold threeW; rw [h]
theorem three_none2 {g t b : List Nat} (h : numW t = none) : threeW g t b = none := by
  unfold threeW; rw [h]; cases numW g <;> rfl
theorem three_none3 {g t b : List Nat} (h : numW b = none) : threeW g t b = none := by
  unfold threeW; rw [h]; cases numW g <;> cases numW t <;> rfl
theorem three_some {g t b : List Nat} {i j k : Nat} (h : threeW g t b = some (i, j, k)) : numW g = some i ∧ numW t = some j ∧ numW b = some k ∧ i ≠ j ∧ i < 12 ∧ j < 12 := by
  unfold threeW at h
  cases h1 : numW g with
  | none => rw [h1] at h; cases h
  | some i' =>
    cases h2 : numW t with
    | none => rw [h1, h2] at h; cases h
    | some j' =>
      cases h3 : numW b with
      | none => rw [h1, h2, h3] at h; cases h
      | some k' =>
        rw [h1, h2, h3] at h
        dsimp only at h
        split at h
        · cases h
          rename_i q
          exact ⟨rfl, rfl, rfl, q⟩
        · cases h
/-! ### texts -/
theorem split_tl (x : Str) {y : Str} {s : Nat} (ey : tl y = [s]) (hs : s < 256) : (Txt.split x y).map tl = sp s [] (tl x) := by
  rw [split_spl x y (by rw [ey]; simp) (kind_ok (by rw [← Array.all_toList, show y.cps.toList = [s] from ey]; simpa using hs)), ey, spl_sp]
theorem part_tl (x : Str) {y : Str} {s : Nat} (ey : tl y = [s]) : ((pa s [] (tl x) = none ∧ Txt.partition x y = (x, Str.empty, Str.empty)) ∨ ∃ a b, pa s [] (tl x) = some (tl a, tl b) ∧ Txt.partition x y = (a, y, b)) := by
  rw [partition_par x y (by rw [ey]; simp), ey, par_pa]
  cases h : pa s [] (tl x) with
  | none => exact .inl ⟨rfl, rfl⟩
  | some p => exact .inr ⟨⟨p.1.toArray⟩, ⟨p.2.toArray⟩, rfl, rfl⟩
end TX

/-! MWa: a list comprehension whose element may raise: the exception leaves the def -/
namespace MG
open PySem PySem.Spec PyProof.Rows L2
/-- the frames, where one object that is none of theirs is another -/
theorem frames_but {B B2 h h' : Heap} : ∀ {l : List Env}, h.FunFrames B l → (∀ L ∈ frs l, h'.get? L = h.get? L ∧ B2.get? L = none) → h'.FunFrames B2 l
  | [], _, _ => True.intro
  | e :: l, fr, k => by
    obtain ⟨md, ⟨L, o, q1, _, q3, q4⟩, rest⟩ := fr
    have me : L ∈ frs (e :: l) := List.mem_filterMap.mpr ⟨e, List.mem_cons_self, q1⟩
    refine ⟨md, ⟨L, o, q1, (k L me).2, (k L me).1.trans q3, q4⟩, frames_but rest fun b hb => k b ?_⟩
    obtain ⟨z, hz, q⟩ := List.mem_filterMap.mp hb
    exact List.mem_filterMap.mpr ⟨z, List.mem_cons_of_mem _ hz, q⟩
theorem held_but {B B2 h h' : Heap} {l : List Env} {a C L : Addr} {Z : Obj → Prop} {oC : Obj} (x : HandSPX.HeldZ B l a Z L h) (eC : h.get? C = some oC) (nf : ∀ vs, oC.data ≠ .fields vs) (sb : Heap.SameBut C h h')
    (b1 : ∀ b, b ≠ C → B2.get? b = B.get? b) (b2 : B2.get? C = none) (fl : ∀ L ∈ frs l, L ≠ C ∧ B.get? L = none) : HandSPX.HeldZ B2 l a Z L h' := by
  obtain ⟨st, na, fr, oe, vs, T, oT, ts, he, hz, hd, v1, nT, nTa, hT, dT, t3⟩ := x
  have aC : a ≠ C := fun z => by
    rw [z, eC] at he
    cases he
    exact nf vs hd
  have tC : T ≠ C := fun z => by
    rw [z, eC] at hT
    cases hT
    exact nf ts dT
  refine ⟨fun b o q => ?_, (b1 a aC).trans na, frames_but fr fun b hb => ⟨sb.2 b (fl b hb).1, (b1 b (fl b hb).1).trans (fl b hb).2⟩, oe, vs, T, oT, ts, (sb.2 a aC).trans he, hz, hd, v1, (b1 T tC).trans nT, nTa, (sb.2 T tC).trans hT, dT, t3⟩
  by_cases z : b = C
  · rw [z, b2] at q
    cases q
  · exact (sb.2 b z).trans (st b o ((b1 b z).symm.trans q))
/-- what is in the air of a comprehension's block leaves the comprehension -/
theorem blk_out {X : Cx} {pins pinsB pn : List (Addr × Obj)} {σ σB : L2.St} {H3 H : Hp} {s3 s s' : Shared} {scope : Scope} {ce : Env} {fp : List Addr} {xe : Value → Shared → Prop} {E : XK} {u : Value}
    (hs : X.stack = X.env :: X.outer) (hf : X.env.frame = some X.env.locals) (tk : Takes X (fun cls d _ H => E cls d H)) (I3 : Inv X pins σ H3 s3) (cF : ce.frame = X.env.frame) (cL : ce.locals = s3.heap.objs.size)
    (f3 : ∀ b ∈ fp, FpOk X pins H3 b ∧ b < s3.heap.objs.size) (I : Inv ((X.blk s3 H3 scope ce fp).tr pn xe) pinsB σB H s) (c : CX X.prog X.w X.stack H s E u s') :
    notedBy (model X.prog X.w) X.A ce (CompFails (model X.prog X.w) X.A X.xe ce) u s' := by
  obtain ⟨a, B, H', cls, d, rfl, fl, hok, ub, na, os, ag, hE⟩ := c
  have e1 : noteFrame (.ref a) ce = noteFrame (.ref a) X.env := by
    unfold noteFrame PySem.frameOf
    rw [cF]
  unfold notedBy
  rw [e1]
  refine HandSPX.looks_onZ Zc.steady (by rw [I3.ok.frames, hs]) hf (by rw [← hs]; exact fl) fun h1 hh up1 => ?_
  rw [← hs] at hh
  -- the block's names
  obtain ⟨m, hn, _⟩ := I.loc
  have hn : s.heap.Ns ce.locals m := hn
  obtain ⟨oC, es, ep, hoC, dC, rC⟩ := hn
  have frC : ∀ L ∈ frs X.stack, L ≠ ce.locals := fun L hL z => by
    obtain ⟨_, o, e, _⟩ := I3.stack.mem hL
    have := Heap.lt_size e
    rw [z, cL] at this
    exact absurd this (Nat.lt_irrefl _)
  have freeC : H ce.locals = none := I.free
  have bC : B.get? ce.locals = some oC := ub.keep _ _ hoC freeC fun z => frC _ z rfl
  have nC : H' ce.locals = none := ub.free _ _ hoC freeC
  have hC1 : h1.get? ce.locals = some oC := hh.1 _ _ bC
  have nf : ∀ vs, oC.data ≠ .fields vs := fun vs z => by rw [dC] at z; cases z
  refine ⟨m, ⟨oC, es, ep, hC1, dC, rC⟩, fun h' m' hn' sb => ?_⟩
  obtain ⟨B2, b1, b2⟩ := restrict B fun b => decide (b ≠ ce.locals)
  have b1 : ∀ b, b ≠ ce.locals → B2.get? b = B.get? b := fun b hb => b1 b (decide_eq_true hb)
  have b2 : B2.get? ce.locals = none := b2 _ (by simp)
  have frB : ∀ L ∈ frs X.stack, B.get? L = none := fun L hL => (hh.2.2.1.mem hL).1
  have held : HandSPX.HeldZ B2 X.stack a (Zc cls d) X.env.locals h' := held_but hh hC1 nf sb b1 b2 fun L hL => ⟨frC L hL, frB L hL⟩
  have held2 := held
  obtain ⟨_, _, _, oe, vs, T, oT, ts, he, hz, hd, v1, _⟩ := held2
  unfold PySem.passOn
  refine wpAny_bind (wpAny_field he hd v1 ?_)
  rw [if_neg (show ¬ ((Value.ref T == Value.none) = true) by simp), cF, hf]
  refine wpAny_bind (HandSPX.setFlight_onZ held fun h2 held2 up2 => wpAny_throw (tk _ _ ?_))
  -- the state without the exception
  obtain ⟨G, g1, g2⟩ := restrict s'.heap fun b => decide (b ≠ ce.locals) && ((B.get? b).isSome || decide (b ∈ frs X.stack))
  have st : B.StaysIn s'.heap := fl.1
  have gB : ∀ b o, b ≠ ce.locals → B.get? b = some o → G.get? b = some o := fun b o hb e => by
    rw [g1 b (by simp [hb, e])]
    exact st b o e
  have gF : ∀ b, b ∈ frs X.stack → G.get? b = s'.heap.get? b := fun b hb => g1 b (by simp [frC b hb, hb])
  have og : ∀ b o, G.get? b = some o → s'.heap.get? b = some o ∧ b ≠ ce.locals ∧ ((B.get? b).isSome = true ∨ b ∈ frs X.stack) := fun b o e => by
    cases q : (decide (b ≠ ce.locals) && ((B.get? b).isSome || decide (b ∈ frs X.stack))) with
    | false => rw [g2 b q] at e; cases e
    | true =>
      rw [g1 b q] at e
      rw [Bool.and_eq_true, Bool.or_eq_true, decide_eq_true_iff, decide_eq_true_iff] at q
      exact ⟨e, q.1, q.2⟩
  have lt3 : ∀ b o, s3.heap.get? b = some o → b ≠ ce.locals := fun b o e z => by
    have := Heap.lt_size e
    rw [z, cL] at this
    exact absurd this (Nat.lt_irrefl _)
  have base : Un (frs X.stack) fp H3 H s3.heap s.heap := I.base
  have J := I3.call (ch := fp) (h' := G) (g' := s'.gens) (t' := s'.toks) (d' := s'.drawn) (H' := H')
    ⟨fun b o e n hb hx => gB b o (lt3 b o e) (ub.keep b o (base.keep b o e n hb hx) (base.free b o e n hx) hb),
      fun b o e n hb hx => by
        obtain ⟨sl, q⟩ := base.slot b o e n hb hx
        obtain ⟨sl2, q2⟩ := ub.slot b _ q hb
        exact ⟨sl2, (gF b hb).trans q2⟩,
      fun b o e n hx => by
        obtain ⟨o', q⟩ := base.there b o e hx
        exact ub.free b o' q (base.free b o e n hx),
      fun b o e hx => by
        obtain ⟨o', q⟩ := base.there b o e hx
        by_cases hb : b ∈ frs X.stack
        · obtain ⟨sl, q2⟩ := ub.slot b o' q hb
          exact ⟨_, (gF b hb).trans q2⟩
        · obtain ⟨o2, q2⟩ := ub.there b o' q hb
          exact ⟨o2, gB b o2 (lt3 b o e) q2⟩,
      fun b xs e => ub.tups b xs (base.tups b xs e), fun b o v e => ub.frzs b o v (base.frzs b o v e), fun b ps e => by
        obtain ⟨m1, q1⟩ := base.tbls b ps e
        obtain ⟨m2, q2⟩ := ub.tbls b _ q1
        exact ⟨m1 ++ m2, by rw [q2, Array.append_assoc]⟩⟩
    (fun b o q => (hok b o q).stay (fun c v hc r => gB c v (fun z => by
      rcases hc with hc | hc
      · rw [← z, hc, q] at nC; cases nC
      · rw [← z, hc] at nC; cases nC) r) (fun _ r => r) fun _ _ r => r) ag
    fun b hb => ⟨(f3 b hb).1.2.2.2.1, (f3 b hb).1.2.1, (f3 b hb).1.2.2.2.2.1, (f3 b hb).1.2.2.2.2.2⟩
  refine ⟨a, B2, _, pins, σ, H', cls, d, rfl, J, fun b o e hb => ?_, fun b o e hnf => ?_, .inr (.inr held2), na, ?_, ag, hE⟩
  · obtain ⟨e', hne, h⟩ := og b o e
    rcases h with h | h
    · obtain ⟨o', q⟩ := Option.isSome_iff_exists.mp h
      have z := st b o' q
      rw [e'] at z
      cases z
      exact (b1 b hne).trans q
    · exact absurd h hb
  · obtain ⟨e', hne, _⟩ := og b o e
    obtain ⟨sl, q⟩ := up1 b o e' hnf
    obtain ⟨sl2, q2⟩ := up2 b _ ((sb.2 b hne).trans q) hnf
    exact ⟨sl2, q2⟩
  · show s'.os = s3.os
    rw [os]
    exact I.os
end MG

/-! MWb: the rule of such a comprehension, as a value and stored -/
namespace MG
open PySem PySem.Spec PyProof.Rows L2
section
variable {X : Cx}
/-- the block, its iterator standing: one turn after the other, or out -/
theorem block_loop {pins : List (Addr × Obj)} {σ : L2.St} {H3 : Hp} {s3 s4 : Shared} {D it : Addr} {E : XK} {Q : VK} {elt tg iter : Expr} {ifs : List Expr} {scope : Scope} {own : List (Str × Nat)} {pos : Pos} {g : TG} {tt : TT} {te : TE} {use : Option (Value → Sem Unit)} {Qf : Value → Shared → Prop}
    {ce : Env} {fp : List Addr} {tn : Nat → Heap → Prop} {J : It} {W : Nat → Nat → Hp → Prop} {m0 : Nat} (hc : X.calm = true) (hs : X.stack = X.env :: X.outer) (hf : X.env.frame = some X.env.locals) (tk : Takes X (fun cls d _ H => E cls d H))
    (I3 : Inv X pins σ H3 s3) (cF : ce.frame = X.env.frame) (cL : ce.locals = s3.heap.objs.size) (f3 : ∀ b ∈ fp, FpOk X pins H3 b ∧ b < s3.heap.objs.size) (T : Turn X.prog X.w X.K tg J fp it tn)
    (pg : PG (X.blk s3 H3 scope ce fp) tg g) (pt : PTs (X.blk s3 H3 scope ce fp) ifs tt) (pe : ∀ pn xe, Passes (CX X.prog X.w) ((X.blk s3 H3 scope ce fp).tr pn xe) E → PE ((X.blk s3 H3 scope ce fp).tr pn xe) elt te)
    (I4 : Inv (X.blk s3 H3 scope ce fp) [] (wipe σ (own.map (·.2))) H3 s4) (st4 : tn 0 s4.heap) (nfp : ∀ b ∈ fp, H3 b = none) (w0 : W 0 m0 H3)
    (turn : ∀ i m H, W i m H → (J.stop i H ∧ Q (.ref D) H) ∨ (J.go i H ∧ ∃ Nx : Hp → Prop, (∀ H', Nx H' → ∃ m', m' < m ∧ W (i + 1) m' H') ∧ ∀ x H', J.yld i H x H' → g x (wipe σ (own.map (·.2))) H' fun σ2 H2 => wipe σ2 (own.map (·.2)) = wipe σ (own.map (·.2)) ∧ tt σ2 H2 fun b H3 =>
      if b = true then te σ2 H3 fun y H4 => ∃ acc, H4 D = some (.lst acc) ∧ acc.length < sizeLine ∧ Nx (upd H4 D (.lst (acc ++ [y]))) else Nx H3))
    (fin : ∀ s' m H', Inv X pins σ H' s' → Q (.ref D) H' → s'.heap.Ns ce.locals m → FpOk X pins H' ce.locals → compEnds (model X.prog X.w) X.A X.xe use Qf (.ref D) ce (.ok .next) s') :
    codeAny (model X.prog X.w) X.A (.compLoop (.ListComp elt [⟨tg, iter, ifs, 0⟩] scope pos) 0 (.ref it) (.ref D) ce) (compEnds (model X.prog X.w) X.A X.xe use Qf (.ref D) ce) s4 := by
  have still : ∀ {σ' : L2.St} {H' : Hp} {s' : Shared}, Inv (X.blk s3 H3 scope ce fp) [] σ' H' s' → (∀ b ∈ fp, H' b = none) → ∀ b ∈ fp, FpOk (X.blk s3 H3 scope ce fp) [] H' b := fun {σ' H' s'} I' n b hb =>
    ⟨n b hb, (I'.ok.exf b hb).1, I'.ok.exfs b hb, .inl hb, fun x c e => (I'.ok.exf b hb).2 x c e, fun p hp => by simp at hp⟩
  refine compLoop_any (fun n s' => ∃ i H', Inv (X.blk s3 H3 scope ce fp) [] (wipe σ (own.map (·.2))) H' s' ∧ tn i s'.heap ∧ (∀ b ∈ fp, H' b = none) ∧ W i n H') ?_ m0 ⟨0, H3, I4, st4, nfp, w0⟩
  rintro n s5 ⟨i, H5, I5, st5, n5, w5⟩
  rcases turn i n H5 w5 with ⟨stop, qq⟩ | ⟨go, Nx, hNx, step⟩
  · refine thnF (T.done (X.blk s3 H3 scope ce fp) rfl rfl rfl hc i [] s5 _ H5 (fun _ _ => False) I5 (still I5 n5) st5 stop) fun r s6 ⟨hr, I6⟩ => ?_
    subst hr
    have back : Inv X pins σ H5 s6 := I3.call' (ch := fp) I6.os I6.base I6.hok I6.bare fun b hb => ⟨(f3 b hb).1.2.2.2.1, (f3 b hb).1.2.1, (f3 b hb).1.2.2.2.2.1, (f3 b hb).1.2.2.2.2.2⟩
    obtain ⟨m, hn, _⟩ := I6.loc
    have nC : H5 s3.heap.objs.size = none := cL ▸ (I6.free : H5 ce.locals = none)
    exact fin s6 m H5 back qq hn (by rw [cL]; exact I3.fpOk (Nat.le_refl _) nC)
  · refine thnF (T.item (X.blk s3 H3 scope ce fp) rfl rfl rfl hc i [] s5 _ H5 (fun _ _ => False) I5 (still I5 n5) st5 go) fun r s6 ⟨u, hr, h6⟩ => ?_
    subst hr
    refine thnF h6 fun _ s7 ⟨x, H7, I7, r7, y7, st7, n7⟩ => ?_
    have J7 := I7.pinned (still I7 n7) (T.obj _ _ st7)
    refine thnF (pg.run _ s7 _ H7 x u _ J7 r7 (step x H7 y7)) fun _ s8 ⟨σ8, H8, I8, hw8, q8⟩ => ?_
    refine thnF (pt.run _ s8 σ8 H8 _ I8 q8) fun b s9 ⟨H9, I9, q9⟩ => ?_
    have over : ∀ {s' : Shared} {H' : Hp}, Inv (X.blk s3 H3 scope ce fp) ([] ++ pinsAt fp s7.heap) σ8 H' s' → Nx H' → ∃ m, m < n ∧ ∃ i H', Inv (X.blk s3 H3 scope ce fp) [] (wipe σ (own.map (·.2))) H' s' ∧ tn i s'.heap ∧ (∀ b ∈ fp, H' b = none) ∧ W i m H' := fun {s' H'} I' nx => by
      obtain ⟨m', hm, w'⟩ := hNx H' nx
      have pinned : ∀ b ∈ fp, ∀ o, s7.heap.get? b = some o → s'.heap.get? b = some o ∧ H' b = none := fun b hb o e => by
        have z := I'.pin (b, o) (List.mem_append_right _ (List.mem_append_right _ (mem_pinsAt hb e)))
        exact ⟨z.1, z.2.1⟩
      refine ⟨m', hm, i + 1, H', (I'.unpinned (pins := [])).weak (by rw [← hw8, wipe_length]) (fun j v e => ?_), T.keep _ _ _ st7 fun b hb o e => (pinned b hb o e).1, fun b hb => ?_, w'⟩
      · rw [← hw8] at e
        exact (wipe_some e).1
      · obtain ⟨o, e, _⟩ := T.obj _ _ st7 b hb
        exact (pinned b hb o e).2
    cases b with
    | false =>
      simp only [Bool.false_eq_true, if_false] at q9 ⊢
      exact over I9 q9
    | true =>
      simp only [if_true] at q9 ⊢
      have out : Passes (CX X.prog X.w) ((X.blk s3 H3 scope ce fp).tr ((X.blk s3 H3 scope ce fp).pn ++ ([] ++ pinsAt fp s7.heap)) (notedBy (model X.prog X.w) X.A ce (CompFails (model X.prog X.w) X.A X.xe ce))) E :=
        fun pinsB σB H s e s' I c => blk_out hs hf tk I3 cF cL f3 I c
      have ok8 := I9.ok
      refine thn ((pe _ _ out).run [] s9 σ8 H9 _ (I9.toTry _) q9) fun z s10 ⟨yv, H10, I10, r10, acc, hD10, hz10, nx⟩ => ?_
      exact wpAny_mono (app_ok (E := fun _ _ => False) (X := X.blk s3 H3 scope ce fp) (I10.ofTry ok8) hD10 hz10 r10 fun s11 I11 => over I11 nx) (fun _ _ h => h) fun _ _ z => False.elim z
theorem lcX_core {pins : List (Addr × Obj)} {s : Shared} {σ : L2.St} {H : Hp} {E : XK} {Q : VK} {elt tg iter : Expr} {ifs : List Expr} {scope : Scope} {own : List (Str × Nat)} {pos pos' : Pos} {wi : TI} {g : TG} {tt : TT} {te : TE} {use : Option (Value → Sem Unit)} {Qf : Value → Shared → Prop}
    (hc : X.calm = true) (hN : X.N.Nodup) (hs : X.stack = X.env :: X.outer) (hf : X.env.frame = some X.env.locals) (tk : Takes X (fun cls d _ H => E cls d H)) (I : Inv X pins σ H s) (hi : PI X tg iter wi) (ok : BlkOk X.N X.env.scope scope own)
    (hg : ∀ (s : Shared) (H : Hp) (C : Addr) (cl : List (Str × Addr)) (fp : List Addr), PG (X.blk s H scope (compEnvC scope cl C X.env) fp) tg g) (ht : ∀ (s : Shared) (H : Hp) (C : Addr) (cl : List (Str × Addr)) (fp : List Addr), PTs (X.blk s H scope (compEnvC scope cl C X.env) fp) ifs tt)
    (he : ∀ (s : Shared) (H : Hp) (C : Addr) (cl : List (Str × Addr)) (fp : List Addr) (pn : List (Addr × Obj)) (xe : Value → Shared → Prop), Passes (CX X.prog X.w) ((X.blk s H scope (compEnvC scope cl C X.env) fp).tr pn xe) E → PE ((X.blk s H scope (compEnvC scope cl C X.env) fp).tr pn xe) elt te)
    (hfs : ∀ x, foldedSetIterable iter X.env x = pure x) (h : tLc wi g tt te (own.map (·.2)) σ H Q)
    (fin : ∀ D cl C s' m H', Inv X pins σ H' s' → Q (.ref D) H' → s'.heap.Ns C m → FpOk X pins H' C → compEnds (model X.prog X.w) X.A X.xe use Qf (.ref D) (compEnvC scope cl C X.env) (.ok .next) s') :
    wpAny (model X.prog X.w) X.A (comprehension (.ListComp elt [⟨tg, iter, ifs, 0⟩] scope pos) scope X.env pos' (newList []) false (eval iter X.env) use) Qf X.xe s := by
  have cells : ∀ y ∈ scope.names, y.2 = .free → ∃ c, X.env.cells.lookup y.1 = some c := fun y hy e => I.ok.has _ (ok.free y hy e)
  refine comprehension_at (use := use) rfl hfs (closure_ok cells) ok.kind (fun y hy e => by rw [ok.uniq y hy, e]) (thn (hi.run pins s σ H _ I h) fun xv s1 hx => thn hx fun itv s2 h2 => ?_)
  obtain ⟨it, fp, tn, J, H2, rfl, I2, T, st2, f2, q⟩ := h2
  refine wpAny_newObj_type (newEnv_comp ?_) (by show 0 ≤ sizeLine; decide)
  generalize hD : s2.heap.objs.size = D
  have nD : H2 D = none := I2.hok.fresh (Nat.le_of_eq hD)
  obtain ⟨W, ⟨m0, w0⟩, turn⟩ := q D nD
  generalize hs3 : ({ s2 with heap := s2.heap.push { cls := .type "list", data := .seq ([] : List Value).toArray } } : Shared) = s3
  have h3 : s3.heap = s2.heap.push { cls := .type "list", data := .seq ([] : List Value).toArray } := by rw [← hs3]
  have I3 : Inv X pins σ (upd H2 D (.lst [])) s3 := by
    rw [← hs3]
    exact I2.laid (t' := s2.toks) (fun b o e => Heap.get?_push_of_some _ e) (Nat.le_of_eq hD) ⟨Nat.zero_le _, [], 0, .nil, by rw [← hD]; exact Heap.get?_push_size _ rfl⟩
  have f3 : ∀ b ∈ fp, FpOk X pins (upd H2 D (.lst [])) b ∧ b < s3.heap.objs.size := fun b hb => by
    obtain ⟨o, e, _⟩ := T.obj _ _ st2 b hb
    have lt := Heap.lt_size e
    refine ⟨⟨?_, (f2 b hb).2⟩, by rw [h3, Heap.size_push]; exact Nat.lt_succ_of_lt lt⟩
    rw [upd_ne (by rw [← hD]; exact Nat.ne_of_lt lt)]
    exact (f2 b hb).1
  have st3 : tn 0 s3.heap := T.keep _ _ _ st2 fun b _ o e => by rw [h3]; exact Heap.get?_push_of_some _ e
  have I4 := block_start I3 ok hN f3
  have loop := block_loop (iter := iter) (pos := pos) (own := own) (E := E) (Q := Q) (use := use) (Qf := Qf) (D := D) (W := W) (m0 := m0) hc hs hf tk I3 (ce := compEnvC scope (cellsFrom (s3.heap.objs.size + 1) scope.names (cloFrom X.env.cells scope.names [])) s3.heap.objs.size X.env) rfl rfl f3 T (hg _ _ _ _ _) (ht _ _ _ _ _) (fun pn xe k => he _ _ _ _ _ pn xe k) I4
    (T.keep _ _ _ st3 fun b _ o e => pushCells_keeps _ _ _ _ (Heap.get?_push_of_some _ e)) (fun b hb => (f3 b hb).1.1) w0 turn fun s' m H' I' qq hn f => fin D _ _ s' m H' I' qq hn f
  exact codeAny_compStart_list loop (T.self X.A 0 _ _ _ (T.keep _ _ _ st3 fun b _ o e => pushCells_keeps _ _ _ _ (Heap.get?_push_of_some _ e)) loop)
/-- as a value -/
theorem pe_lcX {E : XK} {elt tg iter : Expr} {ifs : List Expr} {scope : Scope} {own : List (Str × Nat)} {pos : Pos} {wi : TI} {g : TG} {tt : TT} {te : TE} (hc : X.calm = true) (hN : X.N.Nodup) (hs : X.stack = X.env :: X.outer) (hf : X.env.frame = some X.env.locals) (tk : Takes X (fun cls d _ H => E cls d H)) (hi : PI X tg iter wi) (ok : BlkOk X.N X.env.scope scope own)
    (hg : ∀ (s : Shared) (H : Hp) (C : Addr) (cl : List (Str × Addr)) (fp : List Addr), PG (X.blk s H scope (compEnvC scope cl C X.env) fp) tg g) (ht : ∀ (s : Shared) (H : Hp) (C : Addr) (cl : List (Str × Addr)) (fp : List Addr), PTs (X.blk s H scope (compEnvC scope cl C X.env) fp) ifs tt)
    (he : ∀ (s : Shared) (H : Hp) (C : Addr) (cl : List (Str × Addr)) (fp : List Addr) (pn : List (Addr × Obj)) (xe : Value → Shared → Prop), Passes (CX X.prog X.w) ((X.blk s H scope (compEnvC scope cl C X.env) fp).tr pn xe) E → PE ((X.blk s H scope (compEnvC scope cl C X.env) fp).tr pn xe) elt te)
    (hfs : ∀ x, foldedSetIterable iter X.env x = pure x := by intro _; rfl) : PE X (.ListComp elt [⟨tg, iter, ifs, 0⟩] scope pos) (tLc wi g tt te (own.map (·.2))) := by
  refine ⟨fun pins s σ H Q I h => ?_⟩
  rw [eval_ListComp]
  refine lcX_core hc hN hs hf tk I hi ok hg ht he hfs h fun D cl C s' m H' I' q hn f => ⟨m, hn, fun h'' sb => ?_⟩
  obtain ⟨f0, f1, f2, f3, f4, f5⟩ := f
  exact ⟨.ref D, H', I'.turned (t' := s'.toks) (fun b o hb e => (sb.2 b hb).trans e) f0 f1 f3 f4 f5, rfl, q⟩
end
end MG

/-! MG: an exception caught under a name, and kept by another one behind the suite -/
namespace MG
open PySem PySem.Spec PyProof.Rows L2

/-- an exception of the class cls, without attributes, kept at a -/
def ExI (cls : Value) (a : Addr) : HO := .ext fun h => ∃ (oe : Obj) (vs : Array Value), h.get? a = some oe ∧ Zc cls none oe ∧ oe.data = .fields vs

section
variable {X : Cx} {pins : List (Addr × Obj)} {σ : L2.St} {H : Hp} {s : Shared}
end

/-- what is wished of an exception of the body, where the suite keeps it: it is of the clause's class; behind the suite it is known -/
def wKeep (K : PySem.W.Frag) (c : Value) (i : Nat) (ts : Addr → Value → TS) (D : Ends) : WX := fun cls d σ H =>
  d = none ∧ PySem.W.exmOne K cls c = some true ∧ ∀ a, H a = none →
    ts a cls { nx := fun σ' H' => H' a = none → D.nx (σ'.set i none) (upd H' a (ExI cls a)), rt := fun _ _ => False, bk := fun _ _ => False, ct := fun _ _ => False } (σ.set i (some (.ref a))) H

section
variable {X : Cx} {x n : Str} {c : Value} {i : Nat} {body suite : List Stmt} {b₀ : Stmt} {np pos pos' : Pos} {tb : WX → TS} {ts : Addr → Value → TS}
end
end MG

/-! MG: the end of a law whose defs make lambdas: the tables of code objects are known from the start on. -/
namespace MG
open PySem PySem.Spec PyProof.Rows L2 LamX
abbrev tabO : Obj := { cls := .none, data := .fields #[] }
/-- known at the start: the tables, and the script where it is no constant -/
def startH (cs : List (Addr × Addr)) (a : Addr) (script : Option HO) : Hp := fun b => if b ∈ cs.map Prod.snd then some (.tbl #[]) else if b = a then script else none
theorem startH_tab {cs : List (Addr × Addr)} {a : Addr} {script : Option HO} {p : Addr × Addr} (h : p ∈ cs) : startH cs a script p.2 = some (.tbl #[]) := if_pos (List.mem_map_of_mem h)
theorem startH_some {cs : List (Addr × Addr)} {a b : Addr} {script : Option HO} {u : HO} (h : startH cs a script b = some u) : ((∃ p ∈ cs, p.2 = b) ∧ u = .tbl #[]) ∨ (b = a ∧ script = some u) := by
  unfold startH at h
  split at h
  · next hb => exact .inl ⟨List.mem_map.mp hb, (Option.some.inj h).symm⟩
  · split at h
    · next hb => exact .inr ⟨hb, h⟩
    · cases h
theorem lawGT {P : Program} {w : World} {K : PySem.W.Frag} {mg mb : Str → Option Value} {k : Nat} {fa a : Addr} {cs : List (Addr × Addr)} {fd : FuncData} {x : Str}
    {sp : Sp} {s₁ : Shared} {vs : List Value} {ns : List Int}
    (KX : K.In s₁.heap) (hns : s₁.heap.Ns mainGlobals mg) (hb : s₁.heap.Ns builtinsNs mb)
    (hbb : ∀ x : Str, x ≠ "__name__" → mb x = bootBuiltins x) (hlim : s₁.heap.NoLimit) (hsys : SysD s₁.heap) (hg : s₁.gens = #[])
    (tabs : ∀ p ∈ cs, s₁.heap.get? p.2 = some tabO) (free : ∀ p ∈ cs, K.lookup p.2 = none) (codes : ∀ p ∈ cs, PySem.W.CodeHd s₁.heap p.1 p.2)
    (main : ∃ (bm : Addr) (ob : Obj), mg "__builtins__" = some (.ref bm) ∧ bm ≠ builtinsNs ∧ s₁.heap.get? bm = some ob ∧ ob.cls = .type "module" ∧ ob.dict = some builtinsNs ∧ ob.data = .plain)
    (ha : s₁.heap.get? a = some { cls := .type "list", data := .seq vs.toArray }) (hi : IntsAre vs ns)
    (hl : ns.length ≤ sizeLine) (hr : Room k callerA)
    (F : ∀ base : Heap, K.In base → base.Ns mainGlobals mg → SysD base → (∀ p ∈ cs, TabB base mg p.1 p.2) → FnG P w K mg base k fa fd [x] sp)
    (hbind : ∀ (s : Shared) (u : Value), BindsTo s fd ⟨[u], []⟩ [(x, u)])
    (hsp : ∀ H : Hp, (∀ p ∈ cs, H p.2 = some (.tbl #[])) → SqL K H a (ns.map V.int) → sp [.ref a] H (fun v _ => v = .bl true) fun _ _ _ => False) :
    codeAny (model P w) callerA (.call (.ref fa) ⟨[.ref a], []⟩)
      (fun r s' => r = .ok (.ret (.bool true)) ∧ OldK s₁.heap s'.heap ∧ s'.os = s₁.os ∧ AllBare s'.gens) s₁ := by
  have script : ∃ sc : Option HO, (∀ u, sc = some u → K.lookup a = none ∧ u = .frz { cls := .type "list", data := .seq vs.toArray } (.lst (ns.map V.int))) ∧ SqL K (startH cs a sc) a (ns.map V.int) := by
    cases look : K.lookup a with
    | some o =>
      have e := KX a o look
      rw [ha] at e
      obtain rfl := Option.some.inj e
      exact ⟨none, (fun u z => nomatch z), .inr ⟨_, vs.toArray, _, look, rfl, rfl, rfl, by rw [List.size_toArray, hi.length]; exact hl, by simpa using vals_ints hi⟩⟩
    | none =>
      refine ⟨some (.frz { cls := .type "list", data := .seq vs.toArray } (.lst (ns.map V.int))), fun u z => ⟨rfl, (Option.some.inj z).symm⟩, .inl (.inr ⟨({ cls := .type "list", data := .seq vs.toArray } : Obj), ?_⟩)⟩
      have off : a ∉ cs.map Prod.snd := by
        intro z
        obtain ⟨p, hp, e⟩ := List.mem_map.mp z
        have q := tabs p hp
        rw [e, ha] at q
        exact nomatch (show Data.seq vs.toArray _ = Data.fields #[] from congrArg Obj.data (Option.some.inj q))
      unfold startH
      rw [if_neg off, if_pos rfl]
  obtain ⟨sc, known, sq⟩ := script
  have atTab : ∀ p ∈ cs, startH cs a sc p.2 = some (.tbl #[]) := fun p hp => startH_tab hp
  generalize hH : startH cs a sc = H at sq atTab
  have what : ∀ {b : Addr} {u : HO}, H b = some u → ((∃ p ∈ cs, p.2 = b) ∧ u = .tbl #[]) ∨ (b = a ∧ K.lookup a = none ∧ u = .frz { cls := .type "list", data := .seq vs.toArray } (.lst (ns.map V.int))) := by
    intro b u h
    rw [← hH] at h
    rcases startH_some h with z | ⟨e, z⟩
    · exact .inl z
    · exact .inr ⟨e, known u z⟩
  have ok : HOk P w H s₁.heap := by
    intro b u h
    rcases what h with ⟨⟨p, hp, rfl⟩, rfl⟩ | ⟨rfl, _, rfl⟩
    · exact tabs p hp
    · exact ⟨ha, by rw [List.length_map]; exact hl, vs, _, vals_ints hi, ha⟩
  -- all that is neither a list nor an empty table is in sight
  have seen : ∀ {b : Addr} {o : Obj}, s₁.heap.get? b = some o → (∀ xs n, o.data ≠ .seq xs n) → o.data ≠ .fields #[] → (hidT s₁.heap H).get? b = some o := by
    intro b o e d1 d2
    refine hidT_get e ?_
    cases q : H b with
    | none => rfl
    | some u =>
      rcases what q with ⟨⟨p, hp, rfl⟩, _⟩ | ⟨rfl, _⟩
      · rw [tabs p hp] at e
        exact absurd (by rw [← Option.some.inj e]) d2
      · rw [ha] at e
        exact absurd (by rw [← Option.some.inj e]) (d1 vs.toArray _)
  have names : ∀ {b : Addr} {m : Str → Option Value}, s₁.heap.Ns b m → (hidT s₁.heap H).Ns b m := by
    rintro b m ⟨o, es, ep, e, d, r⟩
    exact ⟨o, es, ep, seen e (fun xs n z => nomatch (d.symm.trans z)) (fun z => nomatch (d.symm.trans z)), d, r⟩
  have kIn : K.In (hidT s₁.heap H) := by
    intro b o look
    refine hidT_get (KX b o look) ?_
    cases q : H b with
    | none => rfl
    | some u =>
      rcases what q with ⟨⟨p, hp, rfl⟩, _⟩ | ⟨rfl, z, _⟩
      · rw [free p hp] at look; cases look
      · rw [z] at look; cases look
  have makers : ∀ p ∈ cs, TabB (hidT s₁.heap H) mg p.1 p.2 := by
    intro p hp
    refine ⟨?code, ?bm, ?gP⟩
    case code =>
      obtain ⟨o, us, file, tf, flags, tg, inF, text, tt, e, c, d, rest⟩ := codes p hp
      refine ⟨o, us, file, tf, flags, tg, inF, text, tt, seen e (fun xs n z => nomatch (d.symm.trans z)) (fun z => ?_), c, d, rest⟩
      have := Data.fields.inj (d.symm.trans z)
      subst this
      exact nomatch rest.1
    case bm =>
      obtain ⟨bm, ob, b1, b2, b3, b4, b5, b6⟩ := main
      refine ⟨bm, ob, b1, b2, fun z => ?_, fun z => ?_, seen b3 (fun xs n z => nomatch (b6.symm.trans z)) (fun z => nomatch (b6.symm.trans z)), b4, b5, b6⟩
      · obtain ⟨o, es, ep, e, d, _⟩ := hns
        rw [← z, b3] at e
        exact nomatch (b6.symm.trans ((congrArg Obj.data (Option.some.inj e)).trans d))
      · have e := tabs p hp
        rw [← z, b3] at e
        exact nomatch (b6.symm.trans (congrArg Obj.data (Option.some.inj e)))
    case gP =>
      intro z
      obtain ⟨o, es, ep, e, d, _⟩ := hns
      rw [z, tabs p hp] at e
      exact nomatch ((congrArg Obj.data (Option.some.inj e)).trans d)
  have modl : Mod K mg (hidT s₁.heap H) := by
    obtain ⟨mc, l1, l2⟩ := hlim
    exact ⟨kIn, names hns, ⟨mb, names hb, hbb⟩, ⟨mc, names l1, l2⟩⟩
  have e0 : Env0 P w K mg (hidT s₁.heap H) callerA [] s₁ H :=
    { frames := rfl, mod := modl, bs := fun b o q => of_hidT q, bsz := Nat.le_of_eq (hidT_size _ _), funs := trivial
      frf := fun b hb => absurd (show b ∈ ([] : List Addr) from hb) List.not_mem_nil, hok := ok, bare := .of_eq hg }
  have sysD : SysD (hidT s₁.heap H) := let ⟨mm, q⟩ := hsys; ⟨mm, names q⟩
  refine codeAny_mono ((F _ kIn (names hns) sysD makers).run callerA [] s₁ H ⟨[.ref a], []⟩ [.ref a] [.ref a] _ _ rfl hr e0 (hbind s₁ (.ref a)) (.cons rfl .nil) (hsp H atTab sq)) ?_
  intro r s' out
  match r, out with
  | .ok (.ret u), out =>
    obtain ⟨v, H', hos, hbare, un, ok', rel, rfl⟩ := out
    obtain rfl : u = Value.bool true := rel
    have grown : ∀ p ∈ cs, ∃ more : Array Value, s'.heap.get? p.2 = some { cls := .none, data := .fields more } := by
      intro p hp
      obtain ⟨more, q⟩ := un.tbls p.2 #[] (atTab p hp)
      exact ⟨_, ok' p.2 _ q⟩
    have kept : ∀ {b : Addr} {o : Obj}, (¬ ∃ p ∈ cs, p.2 = b) → s₁.heap.get? b = some o → s'.heap.get? b = some o := by
      intro b o nb e
      cases q : H b with
      | none => exact un.keep b o e q (fun z => absurd (show b ∈ ([] : List Addr) from z) List.not_mem_nil) List.not_mem_nil
      | some u =>
        rcases what q with ⟨z, _⟩ | ⟨_, _, rfl⟩
        · exact absurd z nb
        · have now := (ok' b _ (un.frzs b _ _ q)).1
          have then_ := (ok b _ q).1
          rw [then_] at e
          rw [now]
          exact e
    refine ⟨rfl, ⟨fun b o e => ?_, fun b o e => ?_⟩, hos, hbare⟩
    · by_cases z : ∃ p ∈ cs, p.2 = b
      · obtain ⟨p, hp, rfl⟩ := z
        obtain ⟨more, q⟩ := grown p hp
        have t := tabs p hp
        rw [t] at e
        obtain rfl := Option.some.inj e
        exact .inr (.inl ⟨((codes p hp).tab t).isCodeTable, rfl, #[], more, rfl, by rw [Array.empty_append]; exact q⟩)
      · exact .inl (kept z e)
    · by_cases z : ∃ p ∈ cs, p.2 = b
      · obtain ⟨p, hp, rfl⟩ := z
        obtain ⟨more, q⟩ := grown p hp
        exact ⟨_, q⟩
      · exact ⟨o, kept z e⟩
/-- the walk of a law whose defs make lambdas -/
theorem walkGT {l : PySem.W.OpenLaw} {n k : Nat} {q : Program} {loose : List Str} {XP : (Str → Option Value) → Heap → Prop}
    {YP : World → Heap → Prop} {d : DefRec} {K : Params → PySem.W.Frag} {x : Str}
    (hn : l.most = some n) (hn2 : n ≤ sizeLine) (hdf : d.params.defaults = []) (hr : Room k callerA) (hq : importsNone q = true)
    (hY : ∀ (w : World) (h : Heap), YP w h → (K w.params).In h)
    (F : ∀ (w : World) (mg : Str → Option Value) (fa : Addr) (h : Heap), YP w h → (K w.params).In h → h.Ns mainGlobals mg → mg d.name = some (.ref fa) →
      ∃ (fd : FuncData) (cs : List (Addr × Addr)) (sp : Sp), (∀ p ∈ cs, h.get? p.2 = some tabO) ∧ (∀ p ∈ cs, (K w.params).lookup p.2 = none) ∧ (∀ p ∈ cs, PySem.W.CodeHd h p.1 p.2) ∧
        (∀ (s : Shared) (u : Value), BindsTo s fd ⟨[u], []⟩ [(x, u)]) ∧
        (∀ (H : Hp) (a : Addr) (ns : List Int), ns.length ≤ n → (∀ p ∈ cs, H p.2 = some (.tbl #[])) → SqL (K w.params) H a (ns.map V.int) → sp [.ref a] H (fun v _ => v = .bl true) fun _ _ _ => False) ∧
        ∀ base : Heap, (K w.params).In base → base.Ns mainGlobals mg → SysD base → (∀ p ∈ cs, TabB base mg p.1 p.2) → FnG l.prog w (K w.params) mg base k fa fd [x] sp) :
    PySem.W.WalkO q loose XP YP l.row.toRowW d [] (fun f vs => PySem.call f vs) := by
  refine Att.attach_call hn hdf ?_
  intro w s₀ s₁ mg mb fa o pm cd doc a vs ns G Y _ _ _ hmg hobj hints hlen hg
  have KX := hY w _ Y
  obtain ⟨fd, cs, sp, t1, t2, t3, hbd, hsp, hF⟩ := F w mg fa _ Y KX G.T.g hmg
  exact lawGT KX G.T.g G.T.b G.T.builtins G.T.nolimit (let ⟨mm, q, _⟩ := (G.T.seer hq).mods; ⟨mm, q⟩) hg t1 t2 t3 G.T.bmain hobj hints (Nat.le_trans hlen hn2) hr hF hbd
    (fun H hT hS => hsp H a ns hlen hT hS)
end MG

/-! MG: sorted(t, key=lambda p: ..) of a tuple of whole numbers; the lambda is held as a def within a def that has no rows. -/
namespace MG
open PySem PySem.Spec PyProof.Rows L2 LamX NdefX

abbrev lamOf (X : Cx) (params : Arguments) (scope : Scope) (c : Addr) : NF :=
  { name := "<lambda>", qual := X.env.qual ++ "<lambda>", params := params, body := [], scope := scope,
    cl := cloFrom X.env.cells scope.names [], c := c }
abbrev lamObj (X : Cx) (params : Arguments) (body : Expr) (scope : Scope) (pm : Value) (c : Addr) (ct : Value) : Obj :=
  PySem.W.kla_obj "<lambda>" (X.env.qual ++ "<lambda>") params body scope (cloFrom X.env.cells scope.names []) pm c ct
abbrev lamCtx (X : Cx) (N : List Str) (params : Arguments) (scope : Scope) (f c : Addr) (A : Around) (s : Shared) (H : Hp) : Cx :=
  ncx CX0 X.prog X.w X.K X.mg X.base N (lamOf X params scope c) f A X.stack s H (fun _ _ _ => False)

section one
variable {X : Cx} {pins : List (Addr × Obj)} {σ : L2.St} {H : Hp} {s : Shared} {A : Around}

end one
end MG

/-! MG: objects of a built-in's own that are pinned, changed, and at last known to the reading. -/
namespace MG
open PySem PySem.Spec PyProof.Rows L2

section pin
variable {X : Cx} {pins : List (Addr × Obj)} {σ : L2.St} {H : Hp} {s : Shared}
end pin

end MG

/-! MG: a list sorted by keys that a function of ours tells. -/
namespace MG
open PySem PySem.Spec PyProof.Rows L2 LamX NdefX
open PySem.W (EachIs)

/-- the numbers, sorted by g, alike ones as they stood -/
def srt (g : Int → Int) (ns : List Int) : List Int := ns.mergeSort fun x y => decide (g x ≤ g y)
def IsI (u : Value) (n : Int) : Prop := RelV (.int n) u
section
variable {X : Cx} {pins : List (Addr × Obj)} {σ : L2.St} {H : Hp} {A : Around} {E : Value → Shared → Prop} {P : PySem.Fin → Shared → Prop}
abbrev lstO (xs : Array Value) (n : Nat) : Obj := seqObj "list" xs n
/-- what f tells of n is g n, whatever of ours is pinned, and nothing changes -/
def Tells (X : Cx) (A : Around) (σ : L2.St) (H : Hp) (f : Addr × Obj) (g : Int → Int) (ns : List Int) : Prop :=
  ∀ n ∈ ns, ∀ (u : Value) (ps : List (Addr × Obj)) (s : Shared), IsI u n → f ∈ ps → Inv X ps σ H s →
    wpAny (model X.prog X.w) A (call (.ref f.1) [u]) (EP X ps σ fun v H' => H' = H ∧ v = .int (g n)) (fun _ _ => False) s
end
end MG

/-! MG: the rule for sorted(t, key=lambda p: body), t a tuple of whole numbers. -/
namespace MG
open PySem PySem.Spec PyProof.Rows L2 LamX NdefX
open PySem.W (EachIs)
section
variable {X : Cx} {pins : List (Addr × Obj)} {σ : L2.St} {H : Hp} {A : Around} {E : Value → Shared → Prop} {P : PySem.Fin → Shared → Prop}
end

/-- the reading: the tuple, the tables, then of each number what the body tells, nothing changed -/
def rSortLam (K : PySem.W.Frag) (T : List (Addr × Str)) (N : List Str) (js : List Nat) (tb : TE) (σ : L2.St) (Q : VK) : List V → Hp → Prop
  | [x], H1 => ∃ (a : Addr) (ns : List Int) (g : Int → Int), x = .ref a ∧ H1 a = some (.tup (ns.map V.int)) ∧ Tabs T H1 ∧
      ∀ H2, ExtN H1 H2 → Tabs T H2 → (∀ n ∈ ns, tb (startF N [.int n] (js.map (slotAt σ))) H2 fun v H' => H' = H2 ∧ v = .int (g n)) ∧
        ∀ q, H2 q = none → Q (.ref q) (upd H2 q (.lst ((srt g ns).map V.int)))
  | _, _ => False
def tSortLam (K : PySem.W.Frag) (T : List (Addr × Str)) (N : List Str) (js : List Nat) (te tb : TE) : TE := fun σ H Q => te σ H fun x H1 => rSortLam K T N js tb σ Q [x] H1
end MG

/-! MG: a def whose code object is known; tables kept -/
namespace MG
open PySem PySem.Spec PyProof.Rows L2 LamX NdefX
section
variable {P : Program} {w : World} {K : PySem.W.Frag} {mg : Str → Option Value} {base : Heap}
end
/-! ### tables -/
/-- all but the box and the tables stay -/
def SXN (b : Addr) (H H' : Hp) : Prop := ∀ a o, a ≠ b → H a = some o → (∀ ps, o ≠ .tbl ps) → H' a = some o
end MG

/-! MG: isinstance of a kept exception, or of anything else -/
namespace MG
open PySem PySem.Spec PyProof.Rows L2
/-- a value's type: that of a kept exception too -/
inductive TyE (K : PySem.W.Frag) (H : Hp) : V → Value → Prop where
  | other {x : V} {t : Value} (h : TyX K H x t) : TyE K H x t
  | exc {a D : Addr} (C : ExcC K D) (e : H a = some (ExI (.ref D) a)) : TyE K H (.ref a) (.ref D)
section
variable {X : Cx} {pins : List (Addr × Obj)} {σ : L2.St} {H : Hp} {s : Shared}
end
/-- isinstance(x, c) -/
def rIsO (K : PySem.W.Frag) : List V → Hp → VK → Prop := fun xs H Q => ∃ (x c : V) (t u : Value) (b : Bool), xs = [x, c] ∧ ClsV c u ∧ TyE K H x t ∧ PySem.W.kitOne K t u = some b ∧ Q (.bl b) H
/-- isinstance(x, (c, ..)) -/
def rIsOT (K : PySem.W.Frag) : List V → Hp → VK → Prop := fun xs H Q => ∃ (x : V) (tp : Addr) (cs : List V) (t : Value) (us : List Value) (b : Bool), xs = [x, .ref tp] ∧ H tp = some (.tup cs) ∧ Paired ClsV cs us ∧ TyE K H x t ∧ PySem.W.kitAny K t us = some b ∧ Q (.bl b) H
section
variable {X : Cx}
end
end MG
namespace MG
open PySem PySem.Spec PyProof.Rows L2
/-- what is known of an own exception class that is raised with a text -/
structure ExcF (K : PySem.W.Frag) (mg : Str → Option Value) (x : Str) (C : Addr) : Prop where
  g : mg x = some (.ref C)
  x : PySem.W.excIn K C [.type "ValueError", .type "Exception", .type "BaseException", .type "object"] "ValueError.__new__" = true
  k : PySem.W.keepIn K (.ref C) = true
  b : PySem.W.subIn K (.ref C) (.type "BaseException") = some true
  t : PySem.W.typeIn K (.ref C) = some (.type "type")
/-- raise X("..") -/
theorem ps_raiseX {X : Cx} {W : WX} {C : Addr} {x m : Str} {j : Nat} {p p2 pos pos2 : Pos} (hc : X.calm = true) (tk : Takes X W) (F : ExcF X.K X.mg x C) (hg : Gl X x) (hdb : (x == ("__debug__" : Str)) = false := by decide) :
    PS X (.Raise (some (.Call (.Name x p) [.Constant (.str m) j p2] [] pos)) none pos2) (fun _ σ H => W (.ref C) none σ H) :=
  ps_raise hc tk (pmk_own PySem.F.excBase_ValueError F.x F.g F.k (raises_own F.b F.t) hg hdb)
end MG
namespace MG
open PySem PySem.Spec PyProof.Rows L2
end MG
namespace MG
end MG

/-! MG: what can be shown (repr), by data alone; amounts -/
namespace MG
open PySem PySem.Spec PyProof.Rows L2
def Sh (n c : Nat) (d : PyData) : Prop := d.showable = true ∧ d.depth ≤ n ∧ d.shown.length ≤ c
theorem Sh.int {i : Int} (h : i.natAbs < 2 ^ 300) : Sh 0 301 (.int i) := by
  refine ⟨?_, Nat.le_refl _, int_len (by decide) h⟩
  show decide (i.natAbs.log2 < 1920) = true
  refine decide_eq_true ?_
  by_cases h0 : i.natAbs = 0
  · rw [h0]; decide
  · exact Nat.lt_of_lt_of_le ((Nat.log2_lt h0).mpr h) (by decide)
theorem shs {n c : Nat} : ∀ {ds : List PyData}, (∀ d ∈ ds, Sh n c d) → PyData.showableAll ds = true ∧ PyData.depthAll ds ≤ n ∧ piled (PyData.shownAll ds) ≤ ds.length * (c + 2)
  | [], _ => ⟨rfl, Nat.zero_le _, by rw [PyData.shownAll, piled_nil]; exact Nat.zero_le _⟩
  | d :: ds, h => by
    obtain ⟨b, e, f⟩ := h d List.mem_cons_self
    obtain ⟨b2, e2, f2⟩ := shs (ds := ds) fun y hy => h y (List.mem_cons_of_mem _ hy)
    refine ⟨?_, ?_, ?_⟩
    · rw [PyData.showableAll, b, b2]; rfl
    · rw [PyData.depthAll]; exact Nat.max_le.mpr ⟨e, e2⟩
    · rw [PyData.shownAll, piled_cons, List.length_cons, Nat.add_mul, Nat.one_mul]
      omega
theorem Sh.tup {n c m : Nat} {ds : List PyData} (h : ∀ d ∈ ds, Sh n c d) (hm : ds.length ≤ m) : Sh (n + 1) (m * (c + 2) + 3) (.tuple ds) := by
  obtain ⟨b1, e1, f1⟩ := shs h
  refine ⟨b1, Nat.succ_le_succ e1, ?_⟩
  have h1 := tupleText_le (PyData.shownAll ds)
  have h2 : ds.length * (c + 2) ≤ m * (c + 2) := Nat.mul_le_mul_right _ hm
  show (tupleText (PyData.shownAll ds)).length ≤ _
  omega
theorem Sh.row {r : List Int} (h : ∀ n ∈ r, 0 ≤ n ∧ n < 2 ^ 250) (hl : r.length ≤ 40) : Sh 1 (40 * 303 + 3) (rowDt r) := by
  refine Sh.tup (n := 0) (c := 301) (fun d hd => ?_) (by rw [List.length_map]; exact hl)
  obtain ⟨n, hn, rfl⟩ := List.mem_map.mp hd
  obtain ⟨h1, h2⟩ := h n hn
  refine Sh.int (Nat.lt_of_lt_of_le ?_ (show 2 ^ 250 ≤ 2 ^ 300 by decide))
  have : ((n.natAbs : Nat) : Int) < ((2 ^ 250 : Nat) : Int) := by
    rw [Int.natAbs_of_nonneg h1]
    exact h2
  exact Int.ofNat_lt.mp this
theorem ddIntsG {H : Hp} : ∀ L : List Int, DdAll H (L.map V.int) (L.map PyData.int)
  | [] => .nil
  | i :: L => .cons (.int i) (ddIntsG L)
end MG

/-! MG: f(b=.., a=..), every parameter by its name, the last one first; defs that know their code object where no repr is under way -/
namespace MG
open PySem PySem.Spec PyProof.Rows L2
/-- how names bind, the last parameter's first -/
def RB (K : PySem.W.Frag) (fd : FuncData) (ps : List Str) : Prop :=
  ∀ (s : Shared) (us : List Value), K.In s.heap → us.length = ps.length → BindsTo s fd ⟨[], ps.reverse.zip us⟩ (ps.zip us.reverse)
/-- the arguments' reading, then the promise of them in the def's order -/
def tCallR (sp : Sp) (E : XK) (tk : TA) : TE := fun σ H Q => tk σ H fun zs H2 => sp zs.reverse H2 Q E
section
variable {X : Cx} {k : Nat} {f : Addr} {fd : FuncData} {ps : List Str} {sp : Sp} {E : XK} {x : Str} {p pos : Pos} {kws : List Keyword} {tk : TA}
end
section
variable {P : Program} {w : World} {K : PySem.W.Frag} {mg : Str → Option Value} {base : Heap}
end
end MG
namespace MG
open PySem PySem.Spec PyProof.Rows L2 LamX
/-- what repr asks -/
def ReprOk (d : PyData) : Prop := d.showable = true ∧ d.depth ≤ 60 ∧ d.shown.length ≤ sizeLine
/-- repr's rule at hand -/
abbrev rRepr : List V → Hp → VK → Prop := fun xs H Q => ∃ x d, xs = [x] ∧ Dd H x d ∧ d.showable = true ∧ d.depth ≤ 60 ∧ d.shown.length ≤ sizeLine ∧ Q (.str d.shown) H
end MG

/-! MXb: texts among data; rows and plans in the heap -/
namespace MG
open PySem PySem.Spec PyProof.Rows L2
def isStrD : PyData → Bool
  | .str _ => true
  | _ => false
theorem kit_str (K : PySem.W.Frag) (d : PyData) : PySem.W.kitOne K (.type (tyN d)) (.type "str") = some (isStrD d) := by
  have h : ∀ (a : String) (r : Bool), (a = "NoneType" ∧ r = false) ∨ (a = "bool" ∧ r = false) ∨ (a = "int" ∧ r = false) ∨ (a = "str" ∧ r = true) ∨ (a = "list" ∧ r = false) ∨ (a = "tuple" ∧ r = false) ∨ (a = "dict" ∧ r = false) → PySem.W.kitOne K (.type a) (.type "str") = some r := fun a r h => by
    rcases h with ⟨rfl, rfl⟩ | ⟨rfl, rfl⟩ | ⟨rfl, rfl⟩ | ⟨rfl, rfl⟩ | ⟨rfl, rfl⟩ | ⟨rfl, rfl⟩ | ⟨rfl, rfl⟩
    all_goals exact kit_ty (by decide +kernel)
  cases d with
  | none => exact h _ _ (.inl ⟨rfl, rfl⟩)
  | bool _ => exact h _ _ (.inr (.inl ⟨rfl, rfl⟩))
  | int _ => exact h _ _ (.inr (.inr (.inl ⟨rfl, rfl⟩)))
  | str _ => exact h _ _ (.inr (.inr (.inr (.inl ⟨rfl, rfl⟩))))
  | list _ => exact h _ _ (.inr (.inr (.inr (.inr (.inl ⟨rfl, rfl⟩)))))
  | tuple _ => exact h _ _ (.inr (.inr (.inr (.inr (.inr (.inl ⟨rfl, rfl⟩))))))
  | dict _ => exact h _ _ (.inr (.inr (.inr (.inr (.inr (.inr ⟨rfl, rfl⟩))))))
/-- whole numbers in a tuple or list -/
abbrev intsV (ns : List Nat) : List V := ns.map fun (n : Nat) => V.int (n : Int)
def runV (r : Nat × Nat × Nat) : List V := [.int (r.1 : Nat), .int (r.2.1 : Nat), .int (r.2.2 : Nat)]
/-- runs at these places -/
def RunsAt (H : Hp) (ts : List Addr) (rs : List (Nat × Nat × Nat)) : Prop := ts.length = rs.length ∧ ∀ (i : Nat) (t : Addr) (r : Nat × Nat × Nat), ts[i]? = some t → rs[i]? = some r → H t = some (.tup (runV r))
theorem RunsAt.mono {H H' : Hp} {ts : List Addr} {rs : List (Nat × Nat × Nat)} (h : RunsAt H ts rs) (s : ∀ a xs, H a = some (.tup xs) → H' a = some (.tup xs)) : RunsAt H' ts rs := ⟨h.1, fun i t r a b => s _ _ (h.2 i t r a b)⟩
theorem RunsAt.nil {H : Hp} : RunsAt H [] [] := ⟨rfl, fun i t r h => nomatch h⟩
theorem RunsAt.snoc {H : Hp} {ts : List Addr} {rs : List (Nat × Nat × Nat)} {t : Addr} {r : Nat × Nat × Nat} (h : RunsAt H ts rs) (e : H t = some (.tup (runV r))) : RunsAt H (ts ++ [t]) (rs ++ [r]) := by
  refine ⟨by rw [List.length_append, List.length_append, h.1]; rfl, fun i t' r' a b => ?_⟩
  by_cases hi : i < ts.length
  · rw [List.getElem?_append_left hi] at a
    rw [List.getElem?_append_left (by rw [← h.1]; exact hi)] at b
    exact h.2 i t' r' a b
  · rw [List.getElem?_append_right (by omega)] at a
    rw [List.getElem?_append_right (by rw [← h.1]; omega), ← h.1] at b
    match hj : i - ts.length, a, b with
    | 0, a, b => cases a; cases b; exact e
theorem eqvL_strs (a b : List Str) : PyData.eqv (.list (a.map PyData.str)) (.list (b.map PyData.str)) = decide (a = b) := by
  rw [PyData.eqv, eqvAll_strs]
theorem shapedL_strs (L : List Str) (h : ∀ x ∈ L, PyData.canLay0 (.str x) = true) : SeqAt.shaped (.list (L.map PyData.str)) = true := by
  unfold SeqAt.shaped
  rw [PyData.canLay0, lay_strsG L h, PyData.depth, depth_strsG]
  rfl
theorem canStr {z : Str} (h : ∀ c ∈ TL.tl z, c < 1114112) : PyData.canLay0 (.str z) = true := by
  show (z.cps.all fun c => decide (c < 0x110000)) = true
  rw [← Array.all_toList, List.all_eq_true]
  exact fun c hc => decide_eq_true (h c hc)
theorem canDash : PyData.canLay0 (.str "-") = true := canStr (by rw [show TL.tl ("-" : Str) = [45] by decide +kernel]; simp)
def figS : Str := "0123456789"
theorem mem_figs (c : Nat) : c ∈ figS.cps.toList ↔ 48 ≤ c ∧ c ≤ 57 := by
  rw [show figS.cps.toList = [48, 49, 50, 51, 52, 53, 54, 55, 56, 57] from by decide +kernel]
  simp only [List.mem_cons, List.not_mem_nil, or_false]
  omega
theorem eq_zero {z : Str} : z = "0" ↔ TL.tl z = [48] := ⟨fun h => by rw [h]; decide +kernel, fun h => TL.ext_tl (h.trans (by decide +kernel))⟩
theorem eq_blank : TL.tl (" " : Str) = [32] := by decide +kernel
theorem eq_star : TL.tl ("*" : Str) = [42] := by decide +kernel
theorem eq_arrow : TL.tl (">" : Str) = [62] := by decide +kernel
theorem eq_dash : TL.tl ("-" : Str) = [45] := by decide +kernel
theorem int_of {z : Str} (h : TX.isNum (TL.tl z) = true) : PySem.intText? z = some ((NumText.digitsVal (TL.tl z) : Nat) : Int) ∧ z.length ≤ 30 := by
  obtain ⟨h1, h2, _⟩ := TX.isNum_iff.mp h
  have hl := TL.len_tl z
  refine ⟨intText_digits (x := z) h2 (fun e => ?_) (by omega), by omega⟩
  have : TL.tl z = [] := e
  rw [this] at h1
  exact absurd h1.1 (by decide)
end MG

namespace K60
open PySem PySem.Spec PyProof.Rows L2 MG
abbrev sIn : Stmt := topS 12
abbrev sRn : Stmt := topS 13
abbrev sWd : Stmt := topS 14
abbrev sRr : Stmt := topS 18
abbrev sRu : Stmt := topS 19
abbrev sRp : Stmt := topS 20
theorem scIn : FnScope ["text"] ["text"] (defScope sIn) := ⟨rfl, rfl, rfl, by decide +kernel, rfl, by decide +kernel, by decide +kernel⟩
theorem scRn : FnScope ["text"] ["text"] (defScope sRn) := ⟨rfl, rfl, rfl, by decide +kernel, rfl, by decide +kernel, by decide +kernel⟩
theorem scWd : FnScope ["text"] ["text"] (defScope sWd) := ⟨rfl, rfl, rfl, by decide +kernel, rfl, by decide +kernel, by decide +kernel⟩
abbrev nRr : List Str := ["text", "word", "row"]
theorem scRr : FnScope ["text", "word", "row"] ["text"] (defScope sRr) := ⟨rfl, rfl, rfl, by decide +kernel, rfl, by decide +kernel, by decide +kernel⟩
theorem scRu : FnScope ["word", "ahead", "star", "many", "giver", "arrow", "taker", "i", "j", "k"] ["word"] (defScope sRu) := ⟨rfl, rfl, rfl, by decide +kernel, rfl, by decide +kernel, by decide +kernel⟩
abbrev nRp : List Str := ["text", "words", "word"]
theorem scRp : FnScope ["text", "words", "word"] ["text"] (defScope sRp) := ⟨rfl, rfl, rfl, by decide +kernel, rfl, by decide +kernel, by decide +kernel⟩
section
variable {P : Program} {w : World} {K : PySem.W.Frag} {mg : Str → Option Value} {base : Heap}
theorem sg_fig {z : Str} : sgB z figS = (TL.tl z).all fun c => decide (48 ≤ c ∧ c ≤ 57) := by
  unfold sgB
  rw [List.all_map]
  have e : (id ∘ fun c => decide (c ∈ figS.cps.toList)) = fun c => decide (48 ≤ c ∧ c ≤ 57) := funext fun c => decide_eq_decide.mpr (mem_figs c)
  rw [e]
def spIn : Sp := fun vs H Q _ => ∃ z : Str, vs = [.str z] ∧ z.length ≤ 1000000 ∧ ∀ H', Same H H' → Q (.bl (TX.isNum (TL.tl z))) H'
theorem ok_in {f fOs : Addr} {fd fdOs : FuncData} {k : Nat} {tM tF : Tok} (F : Fun K "is_number" "is_number" sIn f fd) (FOs : Fun K "is_of_signs" "is_of_signs" sOs fOs fdOs) (bOs : Binds K fdOs ["text", "signs"] []) (gOs : mg "is_of_signs" = some (.ref fOs))
    (gMF : mg "MOST_FIGURES" = some (.int 30 tM)) (gFg : mg "FIGURES" = some (.str figS tF)) (m_all : mg "all" = none) (m_len : mg "len" = none) : FnOk P w K mg base CX0 (k + 2) f fd ["text"] spIn := by
  have GOs : FnOk P w K mg base CX0 (k + 1) fOs fdOs ["text", "signs"] spOs := ok_os FOs m_all
  refine F.ok scIn (fun vs H Q E h => ?_) (fun cdv A outer s H vs Q E hr h => ?_)
  · obtain ⟨z, rfl, _⟩ := h
    rfl
  · obtain ⟨z, rfl, lz, q⟩ := h
    refine ⟨_, pss_cons (ps_if (PW.pt (pw_or (pt_not (pt_chain op_le op_le pe_int (pe_callB call_len_str (by rfl) m_len PySem.boot_len (pa_cons (pv 0) pa_nil)) (pe_glob (v := .int 30) (by rfl) gMF ⟨_, rfl⟩))) (pw_or1 (pt_not (pt_val (pe_call GOs hr (by rfl) gOs FOs.kp bOs .nil pass0 (pa_cons (pv 0) (pa_cons (pe_glob (v := .str figS) (by rfl) gFg ⟨_, rfl⟩) pa_nil)))))))) (pss_one (ps_ret pe_bl)) pss_nil)
      (pss_one (ps_ret (pe_or (pe_cmpR op_eq (pv 0) pe_str (nomark _)) (pe_one (pe_cmpR op_ne (pe_ix ix_str (pv 0) pe_int (fun _ _ => rfl)) pe_str (nomark _)))))), ?_⟩
    have hl := TL.len_tl z
    have no : ∀ H', Same H H' → TX.isNum (TL.tl z) = false → Q (.bl false) H' := fun H' s e => by have := q H' s; rw [e] at this; exact this
    have ne : ∀ c : Prop, ¬ c → ∀ b : Bool, (b = true ↔ c) → b = false := fun c h b k => by cases b with | false => rfl | true => exact absurd (k.mp rfl) h
    have notN : ¬ ((1 ≤ (TL.tl z).length ∧ (TL.tl z).length ≤ 30) ∧ NumText.AllDigits (TL.tl z) ∧ (TL.tl z = [48] ∨ ¬ (TL.tl z).head? = some 48)) → TX.isNum (TL.tl z) = false := fun h => ne _ h _ TX.isNum_iff
    refine ⟨.str z, rfl, z, rfl, by rw [sizeLine_eq]; omega, 1, (z.length : Int), rfl, rfl, _, rfl, ?_⟩
    refine ite2 (fun h1 => ?_) (fun h1 => ⟨false, rfl, iteT (no H (.refl H) (notN fun y => h1 (decide_eq_true (by have := y.1.1; omega))))⟩)
    have h1 := of_decide_eq_true h1
    refine ⟨_, _, rfl, rfl, ?_⟩
    dsimp only
    by_cases h2 : (z.length : Int) ≤ 30
    case neg =>
      rw [decide_eq_false h2]
      exact ⟨false, rfl, iteT (no H (.refl H) (notN fun y => h2 (by have := y.1.2; omega)))⟩
    rw [decide_eq_true h2]
    refine ⟨true, rfl, iteF ?_⟩
    refine ⟨_, rfl, z, figS, rfl, by omega, fun H1 s1 => ⟨_, rfl, ?_⟩⟩
    rw [sg_fig]
    cases hd : (TL.tl z).all fun c => decide (48 ≤ c ∧ c ≤ 57) with
    | false => exact iteT (no H1 s1 (notN fun y => by
        have : (TL.tl z).all (fun c => decide (48 ≤ c ∧ c ≤ 57)) = true := List.all_eq_true.mpr fun c hc => decide_eq_true (y.2.1 c hc)
        rw [hd] at this
        cases this))
    | true =>
      have dg : NumText.AllDigits (TL.tl z) := fun c hc => of_decide_eq_true (List.all_eq_true.mp hd c hc)
      refine iteF ⟨_, rfl, rfl, _, rfl, ite2 (fun h3 => ?_) (fun h3 => ?_)⟩
      · have h3 : z = "0" := V.str.inj (of_decide_eq_true h3)
        have := q H1 s1
        rw [TX.isNum_iff.mpr ⟨⟨by omega, by omega⟩, dg, .inl (eq_zero.mp h3)⟩] at this
        exact this
      · have h3 : ¬ TL.tl z = [48] := fun e => h3 (decide_eq_true (by rw [eq_zero.mpr e]))
        obtain ⟨c, r, ec⟩ : ∃ c r, TL.tl z = c :: r := by
          cases e : TL.tl z with
          | nil => rw [e] at hl; simp at hl; omega
          | cons c r => exact ⟨c, r, rfl⟩
        refine ⟨_, rfl, z, 0, c, rfl, rfl, by rw [sizeLine_eq]; omega, atI_nat (j := 0) (by show (TL.tl z)[0]? = _; rw [ec]; rfl), rfl, ?_⟩
        have e : (!decide (V.str ⟨#[c]⟩ = V.str "0")) = TX.isNum (TL.tl z) := by
          by_cases hc : c = 48
          · rw [decide_eq_true (show V.str ⟨#[c]⟩ = V.str "0" by rw [hc]; exact congrArg V.str (eq_zero.mpr rfl))]
            refine (notN fun y => ?_).symm
            rcases y.2.2 with y | y
            · exact h3 y
            · exact y (by rw [ec, hc]; rfl)
          · rw [decide_eq_false (fun y => hc (by
              have := eq_zero.mp (V.str.inj y)
              have : [c] = [48] := this
              exact (List.cons.inj this).1))]
            exact (TX.isNum_iff.mpr ⟨⟨by omega, by omega⟩, dg, .inr (by rw [ec]; intro y; exact hc (Option.some.inj y))⟩).symm
        rw [e]
        exact q H1 s1
def spRn (NT : Addr) : Sp := fun vs H Q E => ∃ z : Str, vs = [.str z] ∧ z.length ≤ 1000000 ∧ (∀ n, TX.numW (TL.tl z) = some n → ∀ H', Same H H' → Q (.int (n : Nat)) H') ∧ (TX.numW (TL.tl z) = none → ∀ H', Same H H' → E (.ref NT) none H')
theorem ok_rn {NT f fIn : Addr} {fd fdIn : FuncData} {k : Nat} (F : Fun K "read_number" "read_number" sRn f fd) (XT : ExcF K mg "NoText" NT) (FIn : Fun K "is_number" "is_number" sIn fIn fdIn) (bIn : Binds K fdIn ["text"] []) (gIn : mg "is_number" = some (.ref fIn)) (GIn : FnOk P w K mg base CX0 (k + 2) fIn fdIn ["text"] spIn)
    (m_int : mg "int" = none) : FnOk P w K mg base (L2.CX P w) (k + 3) f fd ["text"] (spRn NT) := by
  refine F.okX scRn (fun vs H Q E h => ?_) (fun cdv A outer s H vs Q E hr h => ?_)
  · obtain ⟨z, rfl, _⟩ := h
    rfl
  · obtain ⟨z, rfl, lz, q, qE⟩ := h
    refine ⟨_, pss_cons (ps_if (pt_not (pt_val (pe_call GIn hr (by rfl) gIn FIn.kp bIn .nil pass0 (pa_cons (pv 0) pa_nil)))) (pss_one (ps_raiseX rfl (takes_of rfl rfl rfl rfl) XT rfl)) pss_nil)
      (pss_one (ps_ret (pe_callTy call_int_str (by rfl) m_int (by decide +kernel) (pa_cons (pv 0) pa_nil)))), ?_⟩
    refine ⟨_, rfl, z, rfl, lz, fun H1 s1 => ⟨_, rfl, ?_⟩⟩
    unfold TX.numW at q qE
    cases h : TX.isNum (TL.tl z) with
    | false =>
      rw [h] at qE
      exact iteT (qE rfl H1 s1)
    | true =>
      rw [h] at q
      obtain ⟨e, l⟩ := int_of h
      exact iteF ⟨_, rfl, z, _, rfl, e, by omega, q _ rfl H1 s1⟩
/-- the words of a text -/
def spWd (NT : Addr) : Sp := fun vs H Q E => ∃ (x : V) (d : PyData), vs = [x] ∧ Dd H x d ∧ (∀ z, d = .str z → z.length ≤ 1000000 ∧ ∀ p H' (ys : List Str), Same H H' → H p = none → H' p = some (.lst (ys.map V.str)) → ys.map TL.tl = TX.sp 32 [] (TL.tl z) → Q (.ref p) H') ∧ (isStrD d = false → ∀ H', Same H H' → E (.ref NT) none H')
theorem ok_wd {NT f : Addr} {fd : FuncData} {k : Nat} (F : Fun K "words_of" "words_of" sWd f fd) (XT : ExcF K mg "NoText" NT) (m_isinstance : mg "isinstance" = none) (m_str : mg "str" = none) : FnOk P w K mg base (L2.CX P w) (k + 1) f fd ["text"] (spWd NT) := by
  refine F.okX scWd (fun vs H Q E h => ?_) (fun cdv A outer s H vs Q E hr h => ?_)
  · obtain ⟨x, d, rfl, _⟩ := h
    rfl
  · obtain ⟨x, d, rfl, hd, q, qE⟩ := h
    refine ⟨_, pss_cons (ps_if (pt_not (pt_val (pe_callB call_isi (by rfl) m_isinstance (by decide +kernel) (pa_cons (pv 0) (pa_cons (pe_bltn (v := .ty "str") (by rfl) m_str (by decide +kernel) rfl) pa_nil))))) (pss_one (ps_raiseX rfl (takes_of rfl rfl rfl rfl) XT rfl)) pss_nil)
      (pss_one (ps_ret (pe_split (pv 0) pe_str))), ?_⟩
    refine ⟨x, rfl, x, _, _, _, _, rfl, .ty "str", hd.ty, kit_str _ d, _, rfl, ?_⟩
    cases h : isStrD d with
    | false => exact iteT (qE h H (.refl H))
    | true =>
      cases hd with
      | str z =>
        obtain ⟨lz, q⟩ := q z rfl
        refine iteF ⟨_, rfl, ⟨_, rfl⟩, z, " ", rfl, rfl, by decide +kernel, by rw [sizeLine_eq]; omega, fun p np => ?_⟩
        exact q p _ _ (same_upd np) np upd_same (TX.split_tl z eq_blank (by decide))
      | _ => cases h
/-- a row as it is written -/
def spRr (NT : Addr) : Sp := fun vs H Q E => ∃ (x : V) (d : PyData), vs = [x] ∧ Dd H x d ∧ (∀ z, d = .str z → z.length ≤ 1000000 ∧ (∀ ns, TX.rowT (TL.tl z) = some ns → ∀ p H', Same H H' → H p = none → H' p = some (.tup (intsV ns)) → Q (.ref p) H') ∧ (TX.rowT (TL.tl z) = none → ∀ H', Same H H' → E (.ref NT) none H')) ∧ (isStrD d = false → ∀ H', Same H H' → E (.ref NT) none H')
theorem intsV_eq (ns : List Nat) : intsV ns = (ns.map fun (n : Nat) => (n : Int)).map V.int := by rw [List.map_map]; rfl
theorem sumD_nat : ∀ ns : List Nat, sumD (ns.map fun (n : Nat) => PyData.int (n : Int)) = (ns.sum : Nat)
  | [] => rfl
  | n :: ns => by
    show (n : Int) + sumD _ = _
    rw [sumD_nat ns, List.sum_cons, Int.natCast_add]
theorem rowD_nat (ns : List Nat) : rowD (.tuple (ns.map fun (n : Nat) => PyData.int (n : Int))) = decide (1 ≤ ns.length ∧ ns.length ≤ 12 ∧ 0 < ns.sum ∧ ns.sum < 10 ^ 30) := by
  show rowL _ = _
  unfold rowL
  rw [sumD_nat, List.length_map]
  have e : (ns.map fun (n : Nat) => PyData.int (n : Int)).all nnD = true := List.all_eq_true.mpr fun d hd => by
    obtain ⟨n, _, rfl⟩ := List.mem_map.mp hd
    exact decide_eq_true (Int.natCast_nonneg n)
  rw [e, Bool.true_and, ← Bool.decide_and, ← Bool.decide_and, ← Bool.decide_and]
  exact decide_eq_decide.mpr ⟨fun h => ⟨h.1.1, h.1.2, by omega, by omega⟩, fun h => ⟨⟨h.1, h.2.1⟩, by omega, by omega⟩⟩
theorem ddNat {H : Hp} : ∀ ns : List Nat, DdAll H (intsV ns) (ns.map fun (n : Nat) => PyData.int (n : Int))
  | [] => .nil
  | n :: ns => .cons (.int _) (ddNat ns)
theorem ok_rr {NT f fWd fRn fRow : Addr} {fd fdWd fdRn fdRow : FuncData} {k : Nat} (F : Fun K "read_row" "read_row" sRr f fd) (XT : ExcF K mg "NoText" NT)
    (FWd : Fun K "words_of" "words_of" sWd fWd fdWd) (bWd : Binds K fdWd ["text"] []) (gWd : mg "words_of" = some (.ref fWd)) (GWd : FnOk P w K mg base (L2.CX P w) (k + 1) fWd fdWd ["text"] (spWd NT))
    (FRn : Fun K "read_number" "read_number" sRn fRn fdRn) (bRn : Binds K fdRn ["text"] []) (gRn : mg "read_number" = some (.ref fRn)) (GRn : FnOk P w K mg base (L2.CX P w) (k + 3) fRn fdRn ["text"] (spRn NT))
    (FRow : Fun K "is_row" "is_row" sRow fRow fdRow) (bRow : Binds K fdRow ["thing"] []) (gRow : mg "is_row" = some (.ref fRow)) (GRow : FnOk P w K mg base CX0 (k + 2) fRow fdRow ["thing"] spRow)
    (m_tuple : mg "tuple" = none) : FnOk P w K mg base (L2.CX P w) (k + 4) f fd ["text"] (spRr NT) := by
  refine F.okX scRr (fun vs H Q E h => ?_) (fun cdv A outer s H vs Q E hr h => ?_)
  · obtain ⟨x, d, rfl, _⟩ := h
    rfl
  · obtain ⟨x, d, rfl, hd, q, qE⟩ := h
    have hr1 := hr.mono (show k + 1 ≤ k + 3 by omega)
    have hr2 := hr.mono (show k + 2 ≤ k + 3 by omega)
    refine ⟨_, pss_cons (ps_set (i := 2) scRr.nd rfl (.inl rfl) (pe_callTy call_tuple_of (by rfl) m_tuple (by decide +kernel) (pa_cons (pe_lcX (own := [("word", 1)]) (g := gName 1) (tt := tYes) rfl scRr.nd rfl rfl (takes_of rfl rfl rfl rfl) (pi_list (pe_call GWd hr1 (by rfl) gWd FWd.kp bWd .nil (passes_call (takes_of rfl rfl rfl rfl) (fun _ _ _ _ h => h)) (pa_cons (pv 0) pa_nil))) (blkOk_by (N := nRr) (sc := defScope sRr) (by decide +kernel)) (fun _ _ _ _ _ => pg_name (i := 1) scRr.nd rfl (Or.inl rfl)) (fun _ _ _ _ _ => pts_nil) (fun _ _ _ _ _ _ _ out => pe_call GRn hr (by rfl) gRn FRn.kp bRn .nil out (pa_cons (pv 1) pa_nil))) pa_nil)))
      (pss_cons (ps_if (pt_not (pt_val (pe_call GRow hr2 (by rfl) gRow FRow.kp bRow .nil pass0 (pa_cons (pv 2) pa_nil)))) (pss_one (ps_raiseX rfl (takes_of rfl rfl rfl rfl) XT rfl)) pss_nil)
      (pss_one (ps_ret (pv 2)))), ?_⟩
    refine ⟨x, rfl, x, d, rfl, hd, fun z hz => ?_, qE⟩
    obtain ⟨lz, q, qN⟩ := q z hz
    refine ⟨lz, fun p H1 ys s1 np ep hy => ⟨p, rfl, ⟨_, SqL.of ep⟩, fun D nD => ?_⟩⟩
    have hlen : ys.length ≤ 1000001 := by
      have := congrArg List.length hy
      rw [List.length_map] at this
      have h2 := TX.sp_most 32 (TL.tl z) []
      have := TL.len_tl z
      omega
    have eW : (TX.sp 32 [] (TL.tl z)).map TX.numW = ys.map fun y => TX.numW (TL.tl y) := by rw [← hy, List.map_map]; rfl
    refine lc_list (K := K) (a := p) (xs := ys.map V.str) (fun m G => Same H1 G ∧ ∃ ns : List Nat, G D = some (.lst (intsV ns)) ∧ (ys.take m).map (fun y => TX.numW (TL.tl y)) = ns.map some) ⟨same_upd nD, [], upd_same, rfl⟩ ?_ ?_ ?_
    · rintro m G _ ⟨sm, _⟩
      exact SqL.of (sm _ _ ep)
    · rintro m v G hv ⟨sm, ns, hD, hns⟩
      rw [List.getElem?_map] at hv
      obtain ⟨y, hy', rfl⟩ := Option.map_eq_some_iff.mp hv
      have hm : m < ys.length := (List.getElem?_eq_some_iff.mp hy').1
      have ly : y.length ≤ 1000000 := by
        have := TX.sp_short 32 (TL.tl z) [] (TL.tl y) (by rw [← hy]; exact List.mem_map.mpr ⟨y, List.mem_of_getElem? hy', rfl⟩)
        rw [List.length_nil] at this
        have e1 := TL.len_tl z
        have e2 := TL.len_tl y
        omega
      have nl : ns.length = m := by
        have := congrArg List.length hns
        rw [List.length_map, List.length_map, List.length_take] at this
        omega
      refine ⟨rfl, _, rfl, y, rfl, ly, fun n hn G2 s2 => ?_, fun hn G2 s2 => ?_⟩
      · refine ⟨_, s2 _ _ hD, by rw [List.length_map, nl, sizeLine_eq]; omega, fun b o hb => ?_, ns ++ [n], by rw [upd_same]; unfold intsV; rw [List.map_append]; rfl, ?_⟩
        · rw [upd_ne (ne_of_none hb nD)]
          exact s2 _ _ (sm b o hb)
        · rw [List.take_add_one, hy', List.map_append, hns, List.map_append]
          show _ ++ [TX.numW (TL.tl y)] = _
          rw [hn]; rfl
      · have bad : TX.rowT (TL.tl z) = none := by
          unfold TX.rowT
          rw [eW, TX.allN_none (List.mem_map.mpr ⟨y, List.mem_of_getElem? hy', hn⟩)]
        exact qN bad G2 (fun b o hb => s2 _ _ (sm _ _ (s1 b o hb)))
    · rintro G ⟨sm, ns, hD, hns⟩
      rw [List.length_map, List.take_length] at hns
      have nl : ns.length = ys.length := by
        have := congrArg List.length hns
        rw [List.length_map, List.length_map] at this
        exact this.symm
      have eA : TX.allN ((TX.sp 32 [] (TL.tl z)).map TX.numW) = some ns := TX.allN_some.mpr (by rw [eW, hns])
      refine ⟨D, _, rfl, .inl ⟨SqL.of hD, fun t nt => ?_⟩⟩
      have s2 : Same G (upd G t (.tup (intsV ns))) := same_upd nt
      have e2 : upd G t (.tup (intsV ns)) t = some (.tup (intsV ns)) := upd_same
      generalize upd G t (HO.tup (intsV ns)) = G2 at s2 e2 ⊢
      have s02 : Same H G2 := fun b o hb => s2 _ _ (sm _ _ (s1 b o hb))
      have n1 : 1 ≤ ns.length := by
        have := TX.sp_ne 32 (TL.tl z) []
        rw [← hy, List.length_map] at this
        omega
      refine ⟨_, rfl, .ref t, _, rfl, .tup e2 (ddNat ns), fun H3 s3 => ⟨_, rfl, ?_⟩⟩
      have nt0 : H t = none := by
        cases h : H t with
        | none => rfl
        | some o => have := sm _ _ (s1 t o h); rw [nt] at this; cases this
      unfold TX.rowT at q qN
      rw [eA] at q qN
      dsimp only at q qN
      rw [rowD_nat]
      by_cases hb : 1 ≤ ns.length ∧ ns.length ≤ 12 ∧ 0 < ns.sum ∧ ns.sum < 10 ^ 30
      · rw [decide_eq_true hb]
        rw [if_pos hb.2] at q
        exact iteF ⟨_, rfl, q ns rfl t H3 (s02.trans s3) nt0 (s3 _ _ e2)⟩
      · rw [decide_eq_false hb]
        rw [if_neg (fun y => hb ⟨n1, y⟩)] at qN
        exact iteT (qN rfl H3 (s02.trans s3))
/-- a run as it is written -/
def spRu (NT : Addr) : Sp := fun vs H Q E => ∃ z : Str, vs = [.str z] ∧ z.length ≤ 1000000 ∧ (∀ r, TX.runT (TL.tl z) = some r → ∀ p H', Same H H' → H p = none → H' p = some (.tup (runV r)) → Q (.ref p) H') ∧ (TX.runT (TL.tl z) = none → ∀ H', Same H H' → E (.ref NT) none H')
theorem ok_ru {NT f fRn : Addr} {fd fdRn : FuncData} {k : Nat} {tP : Tok} (F : Fun K "read_run" "read_run" sRu f fd) (XT : ExcF K mg "NoText" NT)
    (FRn : Fun K "read_number" "read_number" sRn fRn fdRn) (bRn : Binds K fdRn ["text"] []) (gRn : mg "read_number" = some (.ref fRn)) (GRn : FnOk P w K mg base (L2.CX P w) (k + 3) fRn fdRn ["text"] (spRn NT))
    (gMP : mg "MOST_PLACES" = some (.int 12 tP)) : FnOk P w K mg base (L2.CX P w) (k + 4) f fd ["word"] (spRu NT) := by
  refine F.okX scRu (fun vs H Q E h => ?_) (fun cdv A outer s H vs Q E hr h => ?_)
  · obtain ⟨z, rfl, _⟩ := h
    rfl
  · obtain ⟨z, rfl, lz, q, qN⟩ := h
    refine ⟨_, pss_cons (ps_asg (pe_partition (pv 0) pe_str) (pg_tup rfl (pgs_cons (pg_name (i := 1) scRu.nd rfl (.inl rfl)) (pgs_cons (pg_name (i := 2) scRu.nd rfl (.inl rfl)) (pgs_cons (pg_name (i := 3) scRu.nd rfl (.inl rfl)) pgs_nil)))))
      (pss_cons (ps_asg (pe_partition (pv 1) pe_str) (pg_tup rfl (pgs_cons (pg_name (i := 4) scRu.nd rfl (.inl rfl)) (pgs_cons (pg_name (i := 5) scRu.nd rfl (.inl rfl)) (pgs_cons (pg_name (i := 6) scRu.nd rfl (.inl rfl)) pgs_nil)))))
      (pss_cons (ps_par3 (i := 7) (j := 8) (l := 9) rfl scRu.nd rfl rfl rfl (by decide) (by decide) (by decide) rfl rfl rfl (pa_cons (pe_call GRn hr (by rfl) gRn FRn.kp bRn .nil (passes_call (takes_of rfl rfl rfl rfl) (fun _ _ _ _ h => h)) (pa_cons (pv 4) pa_nil)) (pa_cons (pe_call GRn hr (by rfl) gRn FRn.kp bRn .nil (passes_call (takes_of rfl rfl rfl rfl) (fun _ _ _ _ h => h)) (pa_cons (pv 6) pa_nil)) (pa_cons (pe_call GRn hr (by rfl) gRn FRn.kp bRn .nil (passes_call (takes_of rfl rfl rfl rfl) (fun _ _ _ _ h => h)) (pa_cons (pv 3) pa_nil)) pa_nil))) (by rfl))
      (pss_cons (ps_if (PW.pt (pw_or (pt_cmpR op_eq (pv 7) (pv 8) (nomark _)) (pw_or (pt_cmpR op_ge (pv 7) (pe_glob (v := .int 12) (by rfl) gMP ⟨_, rfl⟩) (nomark _)) (pw_or1 (pt_cmpR op_ge (pv 8) (pe_glob (v := .int 12) (by rfl) gMP ⟨_, rfl⟩) (nomark _)))))) (pss_one (ps_raiseX rfl (takes_of rfl rfl rfl rfl) XT rfl)) pss_nil)
      (pss_one (ps_ret (pe_tup (pa_cons (pv 7) (pa_cons (pv 8) (pa_cons (pv 9) pa_nil))))))))), ?_⟩
    have l0 := TL.len_tl z
    -- what the two cuts leave
    obtain ⟨ah, st, mn, ep1, h1⟩ : ∃ ah st mn : Str, Txt.partition z "*" = (ah, st, mn) ∧ ((TX.pa 42 [] (TL.tl z) = none ∧ TL.tl mn = [] ∧ ah = z) ∨ (TX.pa 42 [] (TL.tl z) = some (TL.tl ah, TL.tl mn))) := by
      rcases TX.part_tl z eq_star with ⟨h, e⟩ | ⟨a, b, h, e⟩
      · exact ⟨_, _, _, e, .inl ⟨h, rfl, rfl⟩⟩
      · exact ⟨_, _, _, e, .inr h⟩
    have lah : (TL.tl ah).length ≤ (TL.tl z).length ∧ (TL.tl mn).length ≤ (TL.tl z).length := by
      rcases h1 with ⟨_, e, e2⟩ | h
      · rw [e, e2]; exact ⟨Nat.le_refl _, Nat.zero_le _⟩
      · rcases TX.pa_cases 42 (TL.tl z) [] with ⟨k, _⟩ | ⟨a', b, k, _, _, e⟩
        · rw [k] at h; cases h
        · rw [k] at h
          obtain ⟨e1, e2⟩ := Prod.mk.inj (Option.some.inj h)
          rw [← e1, ← e2, e, List.nil_append, List.length_append, List.length_cons]
          omega
    obtain ⟨gv, aw, tk, ep2, h2⟩ : ∃ gv aw tk : Str, Txt.partition ah ">" = (gv, aw, tk) ∧ ((TX.pa 62 [] (TL.tl ah) = none ∧ TL.tl tk = [] ∧ gv = ah) ∨ (TX.pa 62 [] (TL.tl ah) = some (TL.tl gv, TL.tl tk))) := by
      rcases TX.part_tl ah eq_arrow with ⟨h, e⟩ | ⟨a, b, h, e⟩
      · exact ⟨_, _, _, e, .inl ⟨h, rfl, rfl⟩⟩
      · exact ⟨_, _, _, e, .inr h⟩
    have lgv : (TL.tl gv).length ≤ (TL.tl ah).length ∧ (TL.tl tk).length ≤ (TL.tl ah).length := by
      rcases h2 with ⟨_, e, e2⟩ | h
      · rw [e, e2]; exact ⟨Nat.le_refl _, Nat.zero_le _⟩
      · rcases TX.pa_cases 62 (TL.tl ah) [] with ⟨k, _⟩ | ⟨a', b, k, _, _, e⟩
        · rw [k] at h; cases h
        · rw [k] at h
          obtain ⟨e1, e2⟩ := Prod.mk.inj (Option.some.inj h)
          rw [← e1, ← e2, e, List.nil_append, List.length_append, List.length_cons]
          omega
    have key : TX.runT (TL.tl z) = TX.threeW (TL.tl gv) (TL.tl tk) (TL.tl mn) := by
      unfold TX.runT
      rcases h1 with ⟨h, e, _⟩ | h
      · rw [h, e, TX.three_none3 TX.numW_nil]
      · rw [h]
        dsimp only
        rcases h2 with ⟨h', e, _⟩ | h'
        · rw [h', e, TX.three_none2 TX.numW_nil]
        · rw [h']
    rw [key] at q qN
    have e0 := TL.len_tl ah; have e3 := TL.len_tl gv; have e4 := TL.len_tl tk; have e5 := TL.len_tl mn
    refine ⟨_, rfl, ⟨_, rfl⟩, z, "*", rfl, rfl, by decide +kernel, by rw [sizeLine_eq]; omega, fun p np => ?_⟩
    rw [ep1]
    have s1 : Same H (upd H p (.tup [.str ah, .str st, .str mn])) := same_upd np
    have g1 : upd H p (.tup [.str ah, .str st, .str mn]) p = some (.tup [.str ah, .str st, .str mn]) := upd_same
    dsimp only
    generalize upd H p (HO.tup [.str ah, .str st, .str mn]) = H1 at s1 g1 ⊢
    refine ⟨p, _, rfl, SqT.of g1, rfl, _, _, rfl, _, _, rfl, _, _, rfl, rfl, ?_⟩
    refine ⟨_, rfl, ⟨_, rfl⟩, ah, ">", rfl, rfl, by decide +kernel, by rw [sizeLine_eq]; omega, fun p2 np2 => ?_⟩
    rw [ep2]
    have s2 : Same H1 (upd H1 p2 (.tup [.str gv, .str aw, .str tk])) := same_upd np2
    have g2 : upd H1 p2 (.tup [.str gv, .str aw, .str tk]) p2 = some (.tup [.str gv, .str aw, .str tk]) := upd_same
    dsimp only
    generalize upd H1 p2 (HO.tup [.str gv, .str aw, .str tk]) = H2 at s2 g2 ⊢
    have s02 := s1.trans s2
    refine ⟨p2, _, rfl, SqT.of g2, rfl, _, _, rfl, _, _, rfl, _, _, rfl, rfl, ?_⟩
    refine ⟨_, rfl, gv, rfl, by omega, fun i hi G3 s3 => ?_, fun hi G3 s3 => qN (TX.three_none1 hi) G3 (s02.trans s3)⟩
    refine ⟨_, rfl, tk, rfl, by omega, fun j hj G4 s4 => ?_, fun hj G4 s4 => qN (TX.three_none2 hj) G4 (s02.trans (s3.trans s4))⟩
    refine ⟨_, rfl, mn, rfl, by omega, fun n hn G5 s5 => ⟨_, _, _, rfl, ?_⟩, fun hn G5 s5 => qN (TX.three_none3 hn) G5 (s02.trans (s3.trans (s4.trans s5)))⟩
    have s05 := s02.trans (s3.trans (s4.trans s5))
    have e3w : TX.threeW (TL.tl gv) (TL.tl tk) (TL.tl mn) = if i ≠ j ∧ i < 12 ∧ j < 12 then some (i, j, n) else none := by unfold TX.threeW; rw [hi, hj, hn]
    rw [e3w] at q qN
    have bad : ¬ (i ≠ j ∧ i < 12 ∧ j < 12) → E (.ref NT) none G5 := fun h => by rw [if_neg h] at qN; exact qN rfl G5 s05
    refine ⟨_, rfl, _, rfl, rfl, _, rfl, ite2 (fun h => bad fun y => y.1 (by have := V.int.inj (of_decide_eq_true h); omega)) (fun ha => ?_)⟩
    refine ⟨_, rfl, _, _, rfl, rfl, _, rfl, ite2 (fun h => bad fun y => by have := of_decide_eq_true h; omega) (fun hb => ?_)⟩
    refine ⟨_, rfl, _, _, rfl, rfl, _, rfl, ite2 (fun h => bad fun y => by have := of_decide_eq_true h; omega) (fun hc => ?_)⟩
    have good : i ≠ j ∧ i < 12 ∧ j < 12 := ⟨fun e => ha (decide_eq_true (by rw [e])), Nat.lt_of_not_le fun y => hb (decide_eq_true (by omega)), Nat.lt_of_not_le fun y => hc (decide_eq_true (by omega))⟩
    rw [if_pos good] at q
    refine ⟨_, rfl, _, rfl, _, rfl, by show 3 ≤ sizeLine; decide, fun t nt => ?_⟩
    refine q (i, j, n) rfl t _ (s05.trans (same_upd nt)) ?_ upd_same
    cases h : H t with
    | none => rfl
    | some o => have := s05 _ _ h; rw [nt] at this; cases this
/-- a plan as it is written -/
def spRp (NT : Addr) : Sp := fun vs H Q E => ∃ (x : V) (d : PyData), vs = [x] ∧ Dd H x d ∧ (∀ z, d = .str z → z.length ≤ 1000000 ∧ (∀ c ∈ TL.tl z, c < 1114112) ∧ (∀ rs, TX.planT (TL.tl z) = some rs → ∀ p H' (ts : List Addr), Same H H' → H' p = some (.tup (ts.map V.ref)) → RunsAt H' ts rs → Q (.ref p) H') ∧ (TX.planT (TL.tl z) = none → ∀ H', Same H H' → E (.ref NT) none H')) ∧ (isStrD d = false → ∀ H', Same H H' → E (.ref NT) none H')
theorem ok_rp {NT f fWd fRu : Addr} {fd fdWd fdRu : FuncData} {k : Nat} (F : Fun K "read_plan" "read_plan" sRp f fd)
    (FWd : Fun K "words_of" "words_of" sWd fWd fdWd) (bWd : Binds K fdWd ["text"] []) (gWd : mg "words_of" = some (.ref fWd)) (GWd : FnOk P w K mg base (L2.CX P w) (k + 1) fWd fdWd ["text"] (spWd NT))
    (FRu : Fun K "read_run" "read_run" sRu fRu fdRu) (bRu : Binds K fdRu ["word"] []) (gRu : mg "read_run" = some (.ref fRu)) (GRu : FnOk P w K mg base (L2.CX P w) (k + 4) fRu fdRu ["word"] (spRu NT))
    (m_tuple : mg "tuple" = none) : FnOk P w K mg base (L2.CX P w) (k + 5) f fd ["text"] (spRp NT) := by
  refine F.okX scRp (fun vs H Q E h => ?_) (fun cdv A outer s H vs Q E hr h => ?_)
  · obtain ⟨x, d, rfl, _⟩ := h
    rfl
  · obtain ⟨x, d, rfl, hd, q, qE⟩ := h
    have hr1 := hr.mono (show k + 1 ≤ k + 4 by omega)
    refine ⟨_, pss_cons (ps_set (i := 1) scRp.nd rfl (.inl rfl) (pe_call GWd hr1 (by rfl) gWd FWd.kp bWd .nil (passes_call (takes_of rfl rfl rfl rfl) (fun _ _ _ _ h => h)) (pa_cons (pv 0) pa_nil)))
      (pss_cons (ps_if (pt_cmpR (op_eqD hr.units) (pv 1) (pe_lst (pa_cons pe_str pa_nil)) (nomark _)) (pss_one (ps_ret (pe_tup pa_nil))) pss_nil)
      (pss_one (ps_ret (pe_callTy call_tuple_of (by rfl) m_tuple (by decide +kernel) (pa_cons (pe_lcX (own := [("word", 2)]) (g := gName 2) (tt := tYes) rfl scRp.nd rfl rfl (takes_of rfl rfl rfl rfl) (pi_list (pv 1)) (blkOk_by (N := nRp) (sc := defScope sRp) (by decide +kernel)) (fun _ _ _ _ _ => pg_name (i := 2) scRp.nd rfl (Or.inl rfl)) (fun _ _ _ _ _ => pts_nil) (fun _ _ _ _ _ _ _ out => pe_call GRu hr (by rfl) gRu FRu.kp bRu .nil out (pa_cons (pv 2) pa_nil))) pa_nil))))), ?_⟩
    refine ⟨x, rfl, x, d, rfl, hd, fun z hz => ?_, qE⟩
    obtain ⟨lz, oz, q, qN⟩ := q z hz
    refine ⟨lz, fun p H1 ys s1 np ep hy => ?_⟩
    have hlen : ys.length ≤ 1000001 := by
      have := congrArg List.length hy
      rw [List.length_map] at this
      have h2 := TX.sp_most 32 (TL.tl z) []
      have := TL.len_tl z
      omega
    refine ⟨_, rfl, by show 1 ≤ sizeLine; decide, fun l nl => ?_⟩
    have s2 : Same H1 (upd H1 l (.lst [.str "-"])) := same_upd nl
    have e2 : upd H1 l (.lst [.str "-"]) l = some (.lst ((["-"] : List Str).map V.str)) := upd_same
    generalize upd H1 l (HO.lst [.str "-"]) = H2 at s2 e2 ⊢
    have s02 := s1.trans s2
    have ep2 := s2 _ _ ep
    refine ⟨.list (ys.map PyData.str), .list ((["-"] : List Str).map PyData.str), .lst (SqL.of ep2) (dpStrsG ys), .lst (SqL.of e2) (dpStrsG _), shapedL_strs ys (fun y hy' => canStr fun c hc => ?_), shapedL_strs _ (fun x hx => by rw [List.mem_singleton.mp hx]; exact canDash), _, rfl, ?_⟩
    · rcases TX.sp_sub 32 (TL.tl z) [] (TL.tl y) (by rw [← hy]; exact List.mem_map.mpr ⟨y, hy', rfl⟩) c hc with h | h
      · exact absurd h List.not_mem_nil
      · exact oz c h
    rw [eqvL_strs]
    have dash : ys = [("-" : Str)] ↔ TX.sp 32 [] (TL.tl z) = [[45]] := by
      rw [← hy]
      constructor
      · intro e; rw [e]; show [TL.tl ("-" : Str)] = _; rw [eq_dash]
      · intro e
        have e2 : ys.map TL.tl = [("-" : Str)].map TL.tl := e.trans (by show _ = [TL.tl ("-" : Str)]; rw [eq_dash])
        exact TL.map_tl_inj e2
    refine ite2 (fun h => ?_) (fun h => ?_)
    · have h := dash.mp (of_decide_eq_true h)
      have e : TX.planT (TL.tl z) = some [] := by unfold TX.planT; rw [if_pos h]
      exact ⟨by show 0 ≤ sizeLine; decide, fun t nt => q [] e t _ [] (s02.trans (same_upd nt)) upd_same RunsAt.nil⟩
    have h : ¬ TX.sp 32 [] (TL.tl z) = [[45]] := fun y => h (decide_eq_true (dash.mpr y))
    have eP : TX.planT (TL.tl z) = TX.allN (ys.map fun y => TX.runT (TL.tl y)) := by
      unfold TX.planT
      rw [if_neg h, ← hy, List.map_map]; rfl
    rw [eP] at q qN
    refine ⟨_, rfl, p, rfl, ⟨_, SqL.of ep2⟩, fun D nD => ?_⟩
    refine lc_list (K := K) (a := p) (xs := ys.map V.str) (fun m G => Same H2 G ∧ ∃ (ts : List Addr) (rs : List (Nat × Nat × Nat)), G D = some (.lst (ts.map V.ref)) ∧ RunsAt G ts rs ∧ (ys.take m).map (fun y => TX.runT (TL.tl y)) = rs.map some) ⟨same_upd nD, [], [], upd_same, RunsAt.nil, rfl⟩ ?_ ?_ ?_
    · rintro m G _ ⟨sm, _⟩
      exact SqL.of (sm _ _ ep2)
    · rintro m v G hv ⟨sm, ts, rs, hD, hR, hns⟩
      rw [List.getElem?_map] at hv
      obtain ⟨y, hy', rfl⟩ := Option.map_eq_some_iff.mp hv
      have hm : m < ys.length := (List.getElem?_eq_some_iff.mp hy').1
      have ly : y.length ≤ 1000000 := by
        have := TX.sp_short 32 (TL.tl z) [] (TL.tl y) (by rw [← hy]; exact List.mem_map.mpr ⟨y, List.mem_of_getElem? hy', rfl⟩)
        rw [List.length_nil] at this
        have e1 := TL.len_tl z
        have e2 := TL.len_tl y
        omega
      have nl : ts.length = m := by
        have := congrArg List.length hns
        rw [List.length_map, List.length_map, List.length_take] at this
        rw [hR.1]
        omega
      refine ⟨rfl, _, rfl, y, rfl, ly, fun r hn t G2 s2' nt et => ?_, fun hn G2 s2' => ?_⟩
      · have hD2 := s2' _ _ hD
        refine ⟨_, hD2, by rw [List.length_map, nl, sizeLine_eq]; omega, fun b o hb => ?_, ts ++ [t], rs ++ [r], by rw [upd_same, List.map_append]; rfl, ?_, ?_⟩
        · rw [upd_ne (ne_of_none hb nD)]
          exact s2' _ _ (sm b o hb)
        · have kt : ∀ c xs, G2 c = some (.tup xs) → upd G2 D (.lst (ts.map V.ref ++ [.ref t])) c = some (.tup xs) := fun c xs h => by
            rw [upd_ne (fun y => by rw [y, hD2] at h; cases h)]
            exact h
          exact ((hR.mono fun c xs h => s2' _ _ h).snoc et).mono kt
        · rw [List.take_add_one, hy', List.map_append, hns, List.map_append]
          show _ ++ [TX.runT (TL.tl y)] = _
          rw [hn]; rfl
      · exact qN (TX.allN_none (List.mem_map.mpr ⟨y, List.mem_of_getElem? hy', hn⟩)) G2 (fun b o hb => s2' _ _ (sm _ _ (s02 b o hb)))
    · rintro G ⟨sm, ts, rs, hD, hR, hns⟩
      rw [List.length_map, List.take_length] at hns
      refine ⟨D, _, rfl, .inl ⟨SqL.of hD, fun t nt => ?_⟩⟩
      refine q rs (TX.allN_some.mpr hns) t _ ts (s02.trans (sm.trans (same_upd nt))) upd_same (hR.mono fun c xs h => same_upd nt _ _ h)
end
end K60

/-! MG: a run is its deeds -/
namespace MG
open PySem PySem.Spec PyProof.Rows L2
/-- a statement, a word that holds behind it, the rest -/
def tMid (t u : TS) : TS := fun D σ H => ∃ M : L2.St → Hp → Prop, t { D with nx := M } σ H ∧ ∀ σ1 H1, M σ1 H1 → u D σ1 H1
def setP (ns : List Int) (i j : Nat) (x : Int) : List Int := (ns.set i x).set j (ns.getD i 0 + ns.getD j 0 - x)
structure Two (ns : List Int) (i j p q : Nat) : Prop where
  hi : i < ns.length
  hj : j < ns.length
  ne : i ≠ j
  ei : ns.getD i 0 = p
  ej : ns.getD j 0 = q
  p0 : 0 < p
  q0 : 0 < q
end MG

/-! MG: the clause pair -/
namespace MG
open PySem PySem.Spec PyProof.Rows L2
/-- behind how many deeds the other one has a, from x at this one, s together -/
def du (s a : Nat) : Nat → Nat → Nat → Option Nat
  | 0, _, _ => none
  | f + 1, x, k => if s - x = a then some k else if x = 0 then none else du s a f (2 * x % s) (k + 1)
def optV : Option Nat → V
  | none => .non
  | some d => .int d
def cb2 (p q oi oj : Nat) : Bool := if oj = 0 then (du (p + q) oi (p + q) q 0).isSome else (du (p + q) oj (p + q) p 0).isSome
def pairB (r o : List Int) : Bool :=
  match hold r r.length with
  | [i, j] => cb2 (r.getD i.toNat 0).toNat (r.getD j.toNat 0).toNat (o.getD i.toNat 0).toNat (o.getD j.toNat 0).toNat
  | _ => true
def brkF (r o : List Int) : List Str := if r = o then [] else if r.length ≠ o.length then ["places"] else if clausesOf r o ≠ [] ∨ 3 ≤ (hold r r.length).length then clausesOf r o else if pairB r o = true then [] else ["pair"]
/-- what is asked of rows of two holders -/
def PairQ (r o : List Int) : Prop := ¬ r = o → r.length = o.length → clausesOf r o = [] → ¬ 3 ≤ (hold r r.length).length → (hold r r.length).length = 2 ∧ r.sum ≤ 100000
end MG

/-! MG: clauses of rows many times; rows of unit 1 -/
namespace MG
open PySem PySem.Spec PyProof.Rows L2
def sc (c : Int) (r : List Int) : List Int := r.map fun n => c * n
/-! ### rows of unit 1 -/
def oddc (l : List Int) : Nat := (l.filter fun n => decide (n % 2 = 1)).length
/-- a row: its unit's twos t, its measure m -/
structure Ru (r : List Int) (S : Int) (g k c : Nat) : Prop where
  nn : ∀ n ∈ r, 0 ≤ n
  sum : r.sum = S
  gl : gl r = g
  odd : oddc r = k
  cnt : MG.cnt r = c
end MG

/-! MG: two holders: what comes of doublings by rests -/
namespace MG
open PySem PySem.Spec PyProof.Rows L2
/-- the first one's amount behind m doublings, by rests of the sum -/
def Pr (p q u v : Nat) : Prop := ∃ m, p * 2 ^ m % (p + q) = u % (p + q) ∧ u + v = p + q
end MG

/-! MG: the broken clauses of rows laid in another order, with nothings, many times -/
namespace MG
open PySem PySem.Spec PyProof.Rows L2
/-- two entries whose first ones have something, the first pair's second ones come of them -/
def PH (Z : List (Int × Int)) : Prop := ∃ a b rest, Z.Perm (a :: b :: rest) ∧ 0 < a.1 ∧ 0 < b.1 ∧ Pr a.1.toNat b.1.toNat a.2.toNat b.2.toNat
/-- two pairs of rows, one laid from the other with nothings beside -/
structure Alike (r o r' o' : List Int) (k : Nat) : Prop where
  l : r.length = o.length
  l' : r'.length = o'.length
  pm : (r'.zip o').Perm (r.zip o ++ List.replicate k (0, 0))
end MG

/-! MG: what comes of what comes -/
namespace MG
open PySem PySem.Spec PyProof.Rows L2
/-- no clause of any row is broken -/
structure Cl (r o : List Int) : Prop where
  sum : o.sum = r.sum
  hf : hfn r o = false
  ms : MG.ms o = MG.ms r
  tw : v2 (gl r) ≤ v2 (gl o)
  od : v2 (gl o) = v2 (gl r) → MG.od o ≤ MG.od r
  dbl : v2 (gl o) = v2 (gl r) → MG.od o ≠ (hold o o.length).length
end MG

/-! MG: broken of alike rows, of rows many times, of deeds -/
namespace MG
open PySem PySem.Spec PyProof.Rows L2
/-! ### rows laid in an order, with a nothing -/
end MG

/-! MG: wishes -/
namespace MG
open PySem PySem.Spec PyProof.Rows L2
/-- the wishes as a row, 0 for none -/
def wA (ws : List (Option Int)) : List Int := ws.map fun w => w.getD 0
def isFr (r : List Int) (ws : List (Option Int)) (j : Nat) : Bool := (ws.getD j (some 0)).isNone && decide (0 < r.getD j 0)
/-- the places that are free -/
def free (r : List Int) (ws : List (Option Int)) (i : Nat) : List Int := ((List.range i).filter (isFr r ws)).map fun (j : Nat) => (j : Int)
def Meets (ws : List (Option Int)) (o : List Int) : Prop := o.length = ws.length ∧ ∀ (p : Nat) (v : Int), ws[p]? = some (some v) → o[p]? = some v
def fillF (r : List Int) (ws : List (Option Int)) : Option (List Int) :=
  if r.sum - (wA ws).sum < 0 ∨ (0 < r.sum - (wA ws).sum ∧ free r ws ws.length = []) then none
  else if 1 < (free r ws ws.length).length ∧ 2 * (gl r : Int) < r.sum - (wA ws).sum then
    some (((wA ws).set ((free r ws ws.length).getLastD 0).toNat (2 * (gl r : Int))).set ((free r ws ws.length).headD 0).toNat (r.sum - (wA ws).sum - 2 * (gl r : Int)))
  else if free r ws ws.length = [] then some (wA ws) else some ((wA ws).set ((free r ws ws.length).headD 0).toNat (r.sum - (wA ws).sum))
def wishF (r : List Int) (ws : List (Option Int)) : Option (List Int) :=
  match fillF r ws with
  | some o => if brkT r o = [] then some o else none
  | none => none
/-- what is beside the wishes -/
def restW : List (Option Int) → List Int → List Int
  | none :: ws, n :: o => n :: restW ws o
  | some _ :: ws, _ :: o => 0 :: restW ws o
  | _, _ => []
/-- what is known of a row that comes -/
structure Knows (r o : List Int) : Prop where
  len : o.length = r.length
  sum : o.sum = r.sum
  noth : ∀ p, r.getD p 0 = 0 → o.getD p 0 = 0
  dv : ∀ n ∈ o, (gl r : Int) ∣ n
  odd : (o.map (oddF (v2 (gl r)))).sum ≤ (r.map (oddF (v2 (gl r)))).sum
end MG

/-! MG: wishes filled -/
namespace MG
open PySem PySem.Spec PyProof.Rows L2
def wV : Option Int → V
  | none => .non
  | some v => .int v
/-- the forms in which wishes are filled -/
inductive Fill (r : List Int) (ws : List (Option Int)) : List Int → Prop
  | none (h : free r ws ws.length = []) (hs : r.sum = (wA ws).sum) : Fill r ws (wA ws)
  | one (p : Nat) (h : ws[p]? = some Option.none) (h0 : 0 < r.getD p 0) (hl : 0 ≤ r.sum - (wA ws).sum) (hh : (free r ws ws.length).headD 0 = p)
      (hk : (free r ws ws.length).length ≤ 1 ∨ r.sum - (wA ws).sum ≤ 2 * (gl r : Int)) : Fill r ws ((wA ws).set p (r.sum - (wA ws).sum))
  | two (p q : Nat) (hp : ws[p]? = some Option.none) (hq : ws[q]? = some Option.none) (hp0 : 0 < r.getD p 0) (hq0 : 0 < r.getD q 0) (hne : p ≠ q) (hl : 2 * (gl r : Int) < r.sum - (wA ws).sum) :
      Fill r ws (((wA ws).set q (2 * (gl r : Int))).set p (r.sum - (wA ws).sum - 2 * (gl r : Int)))
end MG

/-! MG: parts of tuples, texts of rows or none -/
namespace MG
open PySem PySem.Spec PyProof.Rows L2
theorem cut_fromV {xs : List V} {n : Nat} (h : n ≤ xs.length) : cutV xs (some (n : Int)) none = xs.drop n := by
  unfold cutV
  rw [HT.sIx_none, HT.sIx_nat, Nat.min_eq_left h]
  exact List.take_of_length_le (by rw [List.length_drop]; exact Nat.le_refl _)
/-- a row or none, as data -/
def oD : Option (List Int) → PyData
  | none => .none
  | some o => rowDt o
end MG

/-! MJd: a tuple from behind -/
namespace MG
open PySem PySem.Spec PyProof.Rows L2 HT
/-- t[::-1] -/
def tBack (K : PySem.W.Frag) (te : TE) : TE := fun σ H Q => te σ H fun x H1 => ∃ a xs, x = .ref a ∧ SqT K H1 a xs ∧ ∀ p, H1 p = none → Q (.ref p) (upd H1 p (.tup xs.reverse))
section
variable {X : Cx} {pins : List (Addr × Obj)} {s : Shared} {σ : L2.St} {H : Hp}
end
end MG

/-! MXc: texts from behind; rows and plans as they are written, put together -/
namespace MG
open PySem PySem.Spec PyProof.Rows L2 HT
/-- s[::-1]: as many signs, of the same ones -/
def tBackS (te : TE) : TE := fun σ H Q => te σ H fun x H1 => ∃ z : Str, x = .str z ∧ z.length ≤ sizeLine ∧ ∀ y : Str, y.length ≤ z.length → (∀ c ∈ TL.tl y, c ∈ TL.tl z) → Q (.str y) H1
section
variable {X : Cx} {pins : List (Addr × Obj)} {s : Shared} {σ : L2.St} {H : Hp}
end
end MG
namespace TX
open PySem TL
/-- a text of so many signs at most, all of them real ones -/
def Tok (z : Str) (n : Nat) : Prop := z.length ≤ n ∧ ∀ c ∈ tl z, c < 1114112
theorem Tok.le {z : Str} {n m : Nat} (h : Tok z n) (l : n ≤ m) : Tok z m := ⟨Nat.le_trans h.1 l, h.2⟩
theorem num_head : ∀ (k n : Nat), n ≤ k → 1 ≤ n → (numL n).head? ≠ some 48
  | 0, n, h, h1 => by omega
  | k + 1, n, h, h1 => by
    by_cases z : n < 10
    · rw [numL_lt z]
      intro e
      have := Option.some.inj e
      omega
    · rw [numL_step (by omega)]
      have ih := num_head k (n / 10) (by omega) (by omega)
      cases e : numL (n / 10) with
      | nil => exact absurd e (numL_ne _)
      | cons c r => rw [e] at ih; exact ih
theorem num_w {n : Nat} (h : n < 10 ^ 30) : numW (numL n) = some n := by
  unfold numW
  rw [isNum_iff.mpr ⟨⟨List.length_pos_iff.mpr (numL_ne n), numL_len (by decide) h⟩, numL_digits n, ?_⟩, if_pos rfl, numL_val]
  by_cases z : n = 0
  · subst z; exact .inl (numL_lt (by decide))
  · exact .inr (num_head n n (Nat.le_refl n) (by omega))
theorem pa_app {s : Nat} {a b : List Nat} (h : s ∉ a) : pa s [] (a ++ s :: b) = some (a, b) := by
  have : ∀ (a acc : List Nat), s ∉ a → pa s acc (a ++ s :: b) = some (acc ++ a, b) := fun a => by
    induction a with
    | nil => intro acc _; rw [List.nil_append, pa_cons, if_pos rfl, List.append_nil]
    | cons c r ih =>
      intro acc h
      simp only [List.mem_cons, not_or] at h
      rw [List.cons_append, pa_cons, if_neg (fun z => h.1 z.symm), ih _ h.2, List.append_assoc]; rfl
  exact this a [] h
theorem sp_join {s : Nat} {ps : List (List Nat)} (h : ps ≠ []) (f : ∀ p ∈ ps, s ∉ p) : sp s [] (joinL [s] ps) = ps := by
  rw [← spl_sp]; exact spl_join h f
def runL (r : Nat × Nat × Nat) : List Nat := numL r.1 ++ 62 :: (numL r.2.1 ++ 42 :: numL r.2.2)
theorem runL_free {s : Nat} (r : Nat × Nat × Nat) (h : s < 48 ∨ 57 < s) (h1 : s ≠ 62) (h2 : s ≠ 42) : s ∉ runL r := fun z => by
  unfold runL at z
  simp only [List.mem_append, List.mem_cons] at z
  rcases z with z | z | z | z | z
  · exact numL_free h z
  · exact h1 z
  · exact numL_free h z
  · exact h2 z
  · exact numL_free h z
def GoodRun (r : Nat × Nat × Nat) : Prop := r.1 < 12 ∧ r.2.1 < 12 ∧ r.1 ≠ r.2.1 ∧ r.2.2 < 10 ^ 30
theorem run_w {r : Nat × Nat × Nat} (h : GoodRun r) : runT (runL r) = some r := by
  obtain ⟨h1, h2, h3, h4⟩ := h
  unfold runT runL
  rw [show numL r.1 ++ 62 :: (numL r.2.1 ++ 42 :: numL r.2.2) = (numL r.1 ++ 62 :: numL r.2.1) ++ 42 :: numL r.2.2 by rw [List.append_assoc]; rfl,
    pa_app (by
      intro z
      simp only [List.mem_append, List.mem_cons] at z
      rcases z with z | z | z
      · exact numL_free (.inl (by decide)) z
      · exact absurd z (by decide)
      · exact numL_free (.inl (by decide)) z)]
  dsimp only
  rw [pa_app (numL_free (.inr (by decide)))]
  dsimp only
  unfold threeW
  rw [num_w (Nat.lt_trans h1 (by decide)), num_w (Nat.lt_trans h2 (by decide)), num_w h4]
  dsimp only
  rw [if_pos ⟨h3, h1, h2⟩]
def rowL (ns : List Nat) : List Nat := joinL [32] (ns.map numL)
def planL (rs : List (Nat × Nat × Nat)) : List Nat := if rs = [] then [45] else joinL [32] (rs.map runL)
theorem mem_sumN : ∀ {l : List Nat} {n : Nat}, n ∈ l → n ≤ l.sum
  | a :: l, n, h => by
    rw [List.sum_cons]
    rcases List.mem_cons.mp h with e | h
    · omega
    · have := mem_sumN h; omega
theorem row_w {ns : List Nat} (h : ns.length ≤ 12 ∧ 0 < ns.sum ∧ ns.sum < 10 ^ 30) : rowT (rowL ns) = some ns := by
  have le : ∀ n ∈ ns, n < 10 ^ 30 := fun n hn => Nat.lt_of_le_of_lt (mem_sumN hn) h.2.2
  unfold rowT rowL
  rw [sp_join (fun e => by
      have : ns = [] := List.map_eq_nil_iff.mp e
      rw [this] at h; exact absurd h.2.1 (by decide)) (fun p hp => by
      obtain ⟨n, _, rfl⟩ := List.mem_map.mp hp
      exact numL_free (.inl (by decide))), List.map_map, show ns.map (numW ∘ numL) = ns.map some from List.map_congr_left fun n hn => num_w (le n hn), (allN_some (r := ns)).mpr rfl]
  dsimp only
  rw [if_pos h]
theorem plan_w {rs : List (Nat × Nat × Nat)} (h : ∀ r ∈ rs, GoodRun r) : planT (planL rs) = some rs := by
  unfold planL
  by_cases e : rs = []
  · rw [if_pos e, e]; decide
  rw [if_neg e]
  unfold planT
  have s := sp_join (s := 32) (ps := rs.map runL) (fun z => e (List.map_eq_nil_iff.mp z)) (fun p hp => by
    obtain ⟨r, _, rfl⟩ := List.mem_map.mp hp
    exact runL_free r (.inl (by decide)) (by decide) (by decide))
  rw [s, if_neg, List.map_map, show rs.map (runT ∘ runL) = rs.map some from List.map_congr_left fun r hr => run_w (h r hr), (allN_some (r := rs)).mpr rfl]
  intro z
  cases rs with
  | nil => exact e rfl
  | cons r rs =>
    rw [List.map_cons] at z
    have := (List.cons.inj z).1
    have m : 62 ∈ runL r := by unfold runL; simp
    rw [this] at m
    exact absurd m (by decide)
theorem join_len {S : List Nat} : ∀ ps : List (List Nat), (joinL S ps).length ≤ (ps.map fun p => p.length + S.length).sum
  | [] => Nat.le_refl _
  | [p] => by show p.length ≤ (p.length + S.length) + 0; omega
  | p :: q :: r => by
    have ih := join_len (S := S) (q :: r)
    have e : (joinL S (p :: q :: r)).length = p.length + (S.length + (joinL S (q :: r)).length) := by
      show (p ++ (S ++ joinL S (q :: r))).length = _
      rw [List.length_append, List.length_append]
    rw [e, List.map_cons, List.sum_cons]
    omega
theorem join_mem {S : List Nat} {c : Nat} : ∀ ps : List (List Nat), c ∈ joinL S ps → c ∈ S ∨ ∃ p ∈ ps, c ∈ p
  | [], h => nomatch h
  | [p], h => .inr ⟨p, List.mem_cons_self, h⟩
  | p :: q :: r, h => by
    have h : c ∈ p ++ (S ++ joinL S (q :: r)) := h
    rcases List.mem_append.mp h with h | h
    · exact .inr ⟨p, List.mem_cons_self, h⟩
    rcases List.mem_append.mp h with h | h
    · exact .inl h
    · rcases join_mem (q :: r) h with h | ⟨x, hx, h⟩
      · exact .inl h
      · exact .inr ⟨x, List.mem_cons_of_mem _ hx, h⟩
/-- joined by one sign -/
theorem join_tok {y : Str} {s n : Nat} (ey : tl y = [s]) (hs : s < 1114112) {parts : List Str} (h : ∀ p ∈ parts, Tok p n) : Tok (Txt.join y parts) (parts.length * (n + 1)) ∧ tl (Txt.join y parts) = joinL [s] (parts.map tl) := by
  have e : tl (Txt.join y parts) = joinL [s] (parts.map tl) := by rw [join_eq, tl_join, ey]
  refine ⟨⟨?_, fun c hc => ?_⟩, e⟩
  · rw [len_tl, e]
    refine Nat.le_trans (join_len _) ?_
    have : ∀ l : List Str, (∀ p ∈ l, Tok p n) → ((l.map tl).map fun p => p.length + 1).sum ≤ l.length * (n + 1) := fun l => by
      induction l with
      | nil => intro _; exact Nat.zero_le _
      | cons p l ih =>
        intro h
        have h1 := (h p List.mem_cons_self).1
        have h2 := ih fun q hq => h q (List.mem_cons_of_mem _ hq)
        have e : (p :: l).length * (n + 1) = l.length * (n + 1) + (n + 1) := by rw [List.length_cons]; exact Nat.succ_mul _ _
        rw [len_tl] at h1
        rw [e, List.map_cons, List.map_cons, List.sum_cons]
        omega
    exact this parts h
  · rw [e] at hc
    rcases join_mem _ hc with h' | ⟨p, hp, h'⟩
    · rw [List.mem_singleton.mp h']; exact hs
    · obtain ⟨q, hq, rfl⟩ := List.mem_map.mp hp
      exact (h q hq).2 c h'
theorem num_tok {n : Nat} {k : Nat} (hk : 0 < k) (h : n < 10 ^ k) : Tok (Str.ofString (toString ((n : Nat) : Int))) k := by
  refine ⟨by rw [len_tl, tl_num]; exact numL_len hk h, fun c hc => ?_⟩
  rw [tl_num] at hc
  have := numL_digits n c hc
  omega
theorem cat_tok {a b : Str} {n m : Nat} (ha : Tok a n) (hb : Tok b m) : Tok (a ++ b) (n + m) := by
  refine ⟨?_, fun c hc => ?_⟩
  · have h1 := len_tl (a ++ b)
    rw [tl_append, List.length_append, ← len_tl, ← len_tl] at h1
    have := ha.1; have := hb.1
    omega
  · rw [tl_append] at hc
    rcases List.mem_append.mp hc with h | h
    · exact ha.2 c h
    · exact hb.2 c h
end TX

namespace K60
open PySem PySem.Spec PyProof.Rows L2 MG
abbrev sNum : Stmt := topS 25
abbrev nNum : List Str := ["_law_box_here"]
theorem scNum : FnScope ["_law_box_here"] ["_law_box_here"] (defScope sNum) := ⟨rfl, rfl, rfl, by decide +kernel, rfl, by decide +kernel, by decide +kernel⟩
abbrev sAr : Stmt := topS 26
abbrev nAr : List Str := ["_law_box_here", "_law_turn", "_law_found"]
theorem scAr : FnScope ["_law_box_here", "_law_turn", "_law_found"] ["_law_box_here"] (defScope sAr) := ⟨rfl, rfl, rfl, by decide +kernel, rfl, by decide +kernel, by decide +kernel⟩
abbrev sPln : Stmt := topS 27
abbrev nPln : List Str := ["_law_box_here", "_law_found", "_law_turn", "_law_i"]
theorem scPln : FnScope ["_law_box_here", "_law_found", "_law_turn", "_law_i"] ["_law_box_here"] (defScope sPln) := ⟨rfl, rfl, rfl, by decide +kernel, rfl, by decide +kernel, by decide +kernel⟩
theorem pw_of (i j : Int) (a : 0 ≤ j) (b : j ≤ 1000000) (c : i.natAbs < 2 ^ 64) : CPow i j := ⟨a, b, c⟩
theorem box_ne {G : Hp} {b u : Addr} {m : Nat} (hb : Box G b m) (hu : G u = none) : b ≠ u := by
  obtain ⟨bo, bz⟩ := hb.get
  exact ne_of_none bz hu
theorem box_tup {G : Hp} {z b : Addr} {xs : List V} {m : Nat} (hB : Box G b m) (hz : G z = some (.tup xs)) : z ≠ b := fun w => by
  obtain ⟨_, _, _, e, _⟩ := hB
  rw [w, e] at hz
  cases hz
section
variable {P : Program} {w : World} {K : PySem.W.Frag} {mg : Str → Option Value} {base : Heap}
def spNum : Sp := fun vs H Q _ => ∃ (b : Addr) (n : Nat), vs = [.ref b] ∧ Box H b n ∧ n ≤ 900000 ∧ ∀ (v : Nat) H', v < 10 ^ 30 → SX b H H' → Box H' b (n + 3) → Q (.int (v : Nat)) H'
theorem ok_num {f fT fO : Addr} {fd fdT fdO : FuncData} {k : Nat} (F : Fun K "_law_number" "_law_number" sNum f fd)
    (FT : Fun K "_law_take" "_law_take" sTake fT fdT) (bT : Binds K fdT ["_law_box_here", "_law_many"] []) (gT : mg "_law_take" = some (.ref fT))
    (FO : Fun K "_law_of" "_law_of" sOf fO fdO) (bO : Binds K fdO ["_law_box_here", "_law_some"] []) (gO : mg "_law_of" = some (.ref fO)) (m_len : mg "len" = none) : FnOk P w K mg base CX0 (k + 3) f fd ["_law_box_here"] spNum := by
  have GT : FnOk P w K mg base CX0 (k + 1) fT fdT ["_law_box_here", "_law_many"] spTake := ok_take FT
  have GO : FnOk P w K mg base CX0 (k + 2) fO fdO ["_law_box_here", "_law_some"] spOf := ok_of FO FT bT gT m_len
  refine F.ok scNum (fun vs H Q E h => ?_) (fun cdv A outer s H vs Q E hr h => ?_)
  · obtain ⟨b, n, rfl, _⟩ := h
    rfl
  · obtain ⟨b, n, rfl, hB, hn, want⟩ := h
    have hr2 := hr
    have hr1 := hr.mono (show k + 1 ≤ k + 2 by omega)
    refine ⟨_, pss_one (ps_ret (pe_call GO hr2 (by rfl) gO FO.kp bO .nil pass0 (pa_cons (pv 0) (pa_cons (pe_lst (pa_cons pe_int (pa_cons pe_int (pa_cons pe_int (pa_cons pe_int (pa_cons (pe_call GT hr1 (by rfl) gT FT.kp bT .nil pass0 (pa_cons (pv 0) (pa_cons pe_int pa_nil))) (pa_cons (pe_call GT hr1 (by rfl) gT FT.kp bT .nil pass0 (pa_cons (pv 0) (pa_cons (pe_op op_pow pe_int pe_int) pa_nil))) (pa_cons (pe_op op_pow pe_int pe_int) (pa_cons (pe_op op_sub (pe_op op_pow pe_int pe_int) pe_int) pa_nil))))))))) pa_nil)))), ?_⟩
    refine ⟨_, rfl, _, rfl, b, 100, _, rfl, hB, by omega, by decide, by decide, fun u1 G1 u10 u11 B1 k1 => ?_⟩
    refine ⟨_, rfl, 10, 15, rfl, rfl, pw_of _ _ (by decide) (by decide) (by decide), b, _, _, rfl, B1, by omega, by decide +kernel, by decide +kernel, fun u2 G2 u20 u21 B2 k2 => ?_⟩
    refine ⟨10, 29, rfl, rfl, pw_of _ _ (by decide) (by decide) (by decide), 10, 30, rfl, rfl, pw_of _ _ (by decide) (by decide) (by decide), _, 1, rfl, rfl, by show 8 ≤ sizeLine; decide, fun l nl => ?_⟩
    have x2 : SX b H G2 := (SX.of_eq k1).trans (.of_eq k2)
    refine ⟨b, l, _, _, rfl, B2.new nl, by omega, upd_same, box_ne B2 nl, by show 1 ≤ 8; decide, by show 8 ≤ 1000; decide, fun x G3 hx B3 k3 => ?_⟩
    have x3 : SX b H G3 := (x2.new nl).trans (.of_eq k3)
    have key : ∀ v : Int, 0 ≤ v → v < 10 ^ 30 → Q (.int v) G3 := fun v h0 h1 => by
      obtain ⟨m, rfl⟩ := Int.eq_ofNat_of_zero_le h0
      exact want m G3 (by omega) x3 (B3.le (by omega))
    have e15 : (10 : Int) ^ (15 : Int).toNat = 1000000000000000 := by decide +kernel
    have u21 : u2 < 10 ^ (15 : Int).toNat := u21
    rw [e15] at u21
    simp only [List.mem_cons, List.not_mem_nil, or_false] at hx
    rcases hx with h | h | h | h | h | h | h | h
    · rw [h]; exact key _ (by decide) (by decide)
    · rw [h]; exact key _ (by decide) (by decide)
    · rw [h]; exact key _ (by decide) (by decide)
    · rw [h]; exact key _ (by decide) (by decide)
    · rw [h]; exact key _ u10 (by omega)
    · rw [h]; exact key _ u20 (by omega)
    · rw [h]; exact key _ (by decide +kernel) (by decide +kernel)
    · rw [h]; exact key _ (by decide +kernel) (by decide +kernel)
theorem sum_cap : ∀ {ns : List Nat} {B : Nat}, (∀ n ∈ ns, n ≤ B) → ns.sum ≤ ns.length * B
  | [], _, _ => Nat.zero_le _
  | a :: l, B, h => by
    have h1 := h a List.mem_cons_self
    have h2 := sum_cap fun n hn => h n (List.mem_cons_of_mem _ hn)
    rw [List.sum_cons, List.length_cons, Nat.succ_mul]
    omega
def spAr : Sp := fun vs H Q _ => ∃ (b : Addr) (n : Nat), vs = [.ref b] ∧ Box H b n ∧ n ≤ 800000 ∧ ∀ p H' (ns : List Nat), ns.length ≤ 12 → 0 < ns.sum → ns.sum < 10 ^ 30 → SX b H H' → Box H' b (n + 40) → H' p = some (.tup (intsV ns)) → Q (.ref p) H'
theorem ok_ar {f fT fO fNu : Addr} {fd fdT fdO fdNu : FuncData} {k : Nat} (F : Fun K "_law_any_row" "_law_any_row" sAr f fd)
    (FT : Fun K "_law_take" "_law_take" sTake fT fdT) (bT : Binds K fdT ["_law_box_here", "_law_many"] []) (gT : mg "_law_take" = some (.ref fT))
    (FO : Fun K "_law_of" "_law_of" sOf fO fdO) (bO : Binds K fdO ["_law_box_here", "_law_some"] []) (gO : mg "_law_of" = some (.ref fO))
    (FNu : Fun K "_law_number" "_law_number" sNum fNu fdNu) (bNu : Binds K fdNu ["_law_box_here"] []) (gNu : mg "_law_number" = some (.ref fNu)) (GNu : FnOk P w K mg base CX0 (k + 3) fNu fdNu ["_law_box_here"] spNum)
    (m_len : mg "len" = none) (m_range : mg "range" = none) (m_sum : mg "sum" = none) (m_tuple : mg "tuple" = none) : FnOk P w K mg base CX0 (k + 4) f fd ["_law_box_here"] spAr := by
  have GO : FnOk P w K mg base CX0 (k + 2) fO fdO ["_law_box_here", "_law_some"] spOf := ok_of FO FT bT gT m_len
  refine F.ok scAr (fun vs H Q E h => ?_) (fun cdv A outer s H vs Q E hr h => ?_)
  · obtain ⟨b, n, rfl, _⟩ := h
    rfl
  · obtain ⟨b, n, rfl, hB, hn, want⟩ := h
    have hr3 := hr
    have hr2 := hr.mono (show k + 2 ≤ k + 3 by omega)
    refine ⟨_, pss_cons (ps_setLc (i := 2) (own := [("_law_turn", 1)]) (g := gName 1) (tt := tYes) rfl scAr.nd rfl rfl (sw_true rfl rfl rfl (by decide +kernel)) (pi_range1 (by rfl) m_range (pa_cons (pe_call GO hr2 (by rfl) gO FO.kp bO .nil pass0 (pa_cons (pv 0) (pa_cons (pe_lst (pa_cons pe_int (pa_cons pe_int (pa_cons pe_int (pa_cons pe_int (pa_cons pe_int pa_nil)))))) pa_nil))) pa_nil)) (blkOk_by (N := nAr) (sc := defScope sAr) (by decide +kernel)) (fun _ _ _ _ _ => pg_name (i := 1) scAr.nd rfl (Or.inl rfl)) (fun _ _ _ _ _ => pts_nil) (fun _ _ _ _ _ => pe_op op_fdiv (pe_call GNu hr3 (by rfl) gNu FNu.kp bNu .nil pass0 (pa_cons (pv 0) pa_nil)) pe_int))
      (pss_one (ps_ret (pe_ifExp (pt_cmpR op_gt (pe_callB (cr_sum rfl) (by rfl) m_sum (by decide +kernel) (pa_cons (pv 2) pa_nil)) pe_int (nomark _)) (pe_callTy call_tuple_of (by rfl) m_tuple (by decide +kernel) (pa_cons (pv 2) pa_nil)) (pe_callTy call_tuple_of (by rfl) m_tuple (by decide +kernel) (pa_cons (pe_op op_cat (pe_slice sl_list (pv 2) (po_some pe_int) po_none) (pe_lst (pa_cons pe_int pa_nil))) pa_nil))))), ?_⟩
    refine ⟨_, rfl, by show 5 ≤ sizeLine; decide, fun l nl => ?_⟩
    refine ⟨b, l, _, _, rfl, hB.new nl, by omega, upd_same, box_ne hB nl, by show 1 ≤ 5; decide, by show 5 ≤ 1000; decide, fun x G1 hx B1 k1 => ?_⟩
    have x1 : SX b H G1 := ((SX.refl b H).new nl).trans (.of_eq k1)
    obtain ⟨c, rfl, c1, c2⟩ : ∃ c : Nat, x = .int (c : Nat) ∧ 1 ≤ c ∧ c ≤ 12 := by
      simp only [List.mem_cons, List.not_mem_nil, or_false] at hx
      rcases hx with h | h | h | h | h
      · exact ⟨1, h, by decide, by decide⟩
      · exact ⟨2, h, by decide, by decide⟩
      · exact ⟨3, h, by decide, by decide⟩
      · exact ⟨4, h, by decide, by decide⟩
      · exact ⟨12, h, by decide, by decide⟩
    refine ⟨(c : Int), rfl, by omega, by omega, fun D nD => ?_⟩
    rw [Int.toNat_natCast]
    have bD := box_ne B1 nD
    refine lc_range (lo := 0) (n := c) (fun i G => SX b H G ∧ Box G b (n + 1 + 3 * i) ∧ ∃ ns : List Nat, G D = some (.lst (intsV ns)) ∧ ns.length = i ∧ ∀ m ∈ ns, m ≤ (10 ^ 30 - 1) / 12) ⟨x1.new nD, B1.new nD, [], upd_same, rfl, fun m h => nomatch h⟩ ?_ ?_
    · rintro i G hi ⟨xG, BG, ns, eD, nl', le⟩
      refine ⟨rfl, ?_⟩
      refine ⟨_, rfl, b, _, rfl, BG, by omega, fun v G2 hv x2 B2 => ?_⟩
      refine ⟨_, 12, rfl, rfl, ⟨by decide, by decide⟩, ?_⟩
      have eD2 := x2 _ _ bD.symm eD
      have ev : ((v : Nat) : Int) / 12 = ((v / 12 : Nat) : Int) := by omega
      dsimp only
      rw [ev]
      refine ⟨_, eD2, by rw [List.length_map, nl']; exact small1000 (by omega), SX.set (xG.trans x2) ?_, (B2.set bD).le (by omega), ns ++ [v / 12], by rw [upd_same]; unfold intsV; rw [List.map_append]; rfl, by rw [List.length_append, nl']; rfl, fun m hm => ?_⟩
      · cases h : H D with
        | none => rfl
        | some o => have := x1 D o bD.symm h; rw [nD] at this; cases this
      · rcases List.mem_append.mp hm with h | h
        · exact le m h
        · rw [List.mem_singleton.mp h]; omega
    · rintro G ⟨xG, BG, ns, eD, nl', le⟩
      have cap := sum_cap le
      rw [nl'] at cap
      have top : ns.sum < 10 ^ 30 := by
        have : c * ((10 ^ 30 - 1) / 12) ≤ 12 * ((10 ^ 30 - 1) / 12) := Nat.mul_le_mul_right _ c2
        omega
      have eV : intsV ns = (ns.map fun (n : Nat) => (n : Int)).map V.int := by unfold intsV; rw [List.map_map]; rfl
      have cast : (ns.map fun (n : Nat) => (n : Int)).sum = ((ns.sum : Nat) : Int) := by
        clear want hx cap top eD le nl' eV
        induction ns with
        | nil => rfl
        | cons a l ih => rw [List.map_cons, List.sum_cons, ih, List.sum_cons, Int.natCast_add]
      refine ⟨_, rfl, D, _, rfl, SqL.of (by rw [← eV]; exact eD), ?_⟩
      rw [cast]
      refine ⟨_, _, rfl, rfl, _, rfl, ite2 (fun h1 => ?_) (fun h1 => ?_)⟩
      · have h1 := of_decide_eq_true h1
        refine ⟨_, rfl, D, _, rfl, .inl ⟨SqL.of eD, fun t nt => ?_⟩⟩
        exact want t _ ns (by omega) (by omega) top (xG.new nt) ((BG.new nt).le (by omega)) upd_same
      · have z : ns.sum = 0 := by
          refine Classical.byContradiction fun y => h1 (decide_eq_true (by omega))
        refine ⟨_, rfl, 1, rfl, ?_⟩
        dsimp only [tNoPart]
        refine ⟨D, _, rfl, SqL.of eD, fun p np => ?_⟩
        rw [show cutV (intsV ns) (some 1) none = (intsV ns).drop 1 from cut_fromV (xs := intsV ns) (n := 1) (by unfold intsV; rw [List.length_map]; omega)]
        have e1 : (intsV ns).drop 1 = intsV (ns.drop 1) := by unfold intsV; rw [List.map_drop]
        rw [e1]
        refine ⟨by show 1 ≤ sizeLine; decide, fun l2 nl2 => ?_⟩
        refine ⟨p, l2, _, _, rfl, rfl, same_upd nl2 _ _ upd_same, upd_same, by unfold intsV; rw [List.length_map, List.length_drop, sizeLine_eq]; show _ + 1 ≤ _; omega, fun l3 nl3 => ⟨l3, _, rfl, .inl ⟨SqL.of upd_same, fun t nt => ?_⟩⟩⟩
        have zs : ∀ m ∈ ns, m = 0 := fun m hm => by have := TX.mem_sumN hm; omega
        have ds : (ns.drop 1).sum = 0 := by
          have := sum_cap (ns := ns.drop 1) (B := 0) fun m hm => Nat.le_of_eq (zs m (List.mem_of_mem_drop hm))
          omega
        refine want t _ (ns.drop 1 ++ [1]) (by rw [List.length_append, List.length_drop]; show _ + 1 ≤ 12; omega) (by rw [List.sum_append, ds]; decide) (by rw [List.sum_append, ds]; decide +kernel) ((((xG.new np).new nl2).new nl3).new nt) (((((BG.new np).new nl2).new nl3).new nt).le (by omega)) ?_
        rw [upd_same]
        unfold intsV
        rw [List.map_append]
        rfl
def spPln : Sp := fun vs H Q _ => ∃ (b : Addr) (n : Nat), vs = [.ref b] ∧ Box H b n ∧ n ≤ 800000 ∧ ∀ p H' (ts : List Addr) (rs : List (Nat × Nat × Nat)), rs.length ≤ 20 → (∀ r ∈ rs, TX.GoodRun r) → SX b H H' → Box H' b (n + 120) → H' p = some (.tup (ts.map V.ref)) → RunsAt H' ts rs → Q (.ref p) H'
theorem ok_pln {f fT fO fNu : Addr} {fd fdT fdO fdNu : FuncData} {k : Nat} (F : Fun K "_law_plan" "_law_plan" sPln f fd)
    (FT : Fun K "_law_take" "_law_take" sTake fT fdT) (bT : Binds K fdT ["_law_box_here", "_law_many"] []) (gT : mg "_law_take" = some (.ref fT))
    (FO : Fun K "_law_of" "_law_of" sOf fO fdO) (bO : Binds K fdO ["_law_box_here", "_law_some"] []) (gO : mg "_law_of" = some (.ref fO))
    (FNu : Fun K "_law_number" "_law_number" sNum fNu fdNu) (bNu : Binds K fdNu ["_law_box_here"] []) (gNu : mg "_law_number" = some (.ref fNu)) (GNu : FnOk P w K mg base CX0 (k + 3) fNu fdNu ["_law_box_here"] spNum)
    (m_len : mg "len" = none) (m_range : mg "range" = none) (m_tuple : mg "tuple" = none) : FnOk P w K mg base CX0 (k + 4) f fd ["_law_box_here"] spPln := by
  have GT : FnOk P w K mg base CX0 (k + 1) fT fdT ["_law_box_here", "_law_many"] spTake := ok_take FT
  have GO : FnOk P w K mg base CX0 (k + 2) fO fdO ["_law_box_here", "_law_some"] spOf := ok_of FO FT bT gT m_len
  refine F.ok scPln (fun vs H Q E h => ?_) (fun cdv A outer s H vs Q E hr h => ?_)
  · obtain ⟨b, n, rfl, _⟩ := h
    rfl
  · obtain ⟨b, n, rfl, hB, hn, want⟩ := h
    have hr3 := hr
    have hr2 := hr.mono (show k + 2 ≤ k + 3 by omega)
    have hr1 := hr.mono (show k + 1 ≤ k + 3 by omega)
    refine ⟨_, pss_cons (ps_set (i := 1) scPln.nd rfl (.inl rfl) (pe_lst pa_nil))
      (pss_cons (ps_for PassesOwn.never rfl (pi_range1 (by rfl) m_range (pa_cons (pe_call GO hr2 (by rfl) gO FO.kp bO .nil pass0 (pa_cons (pv 0) (pa_cons (pe_lst (pa_cons pe_int (pa_cons pe_int (pa_cons pe_int (pa_cons pe_int (pa_cons pe_int pa_nil)))))) pa_nil))) pa_nil)) (pg_name (i := 2) scPln.nd rfl (.inl rfl)) (pss_cons (ps_set (i := 3) scPln.nd rfl (.inl rfl) (pe_call GT hr1 (by rfl) gT FT.kp bT .nil pass0 (pa_cons (pv 0) (pa_cons pe_int pa_nil))))
      (pss_one (ps_expr (pe_bm PySem.F.plainAttrs_list PySem.F.slot_list_append PySem.F.type_list_append mt_append (pv 1) (pa_cons (pe_tup (pa_cons (pv 3) (pa_cons (pe_op op_mod (pe_op op_add (pe_op op_add (pv 3) pe_int) (pe_call GT hr1 (by rfl) gT FT.kp bT .nil pass0 (pa_cons (pv 0) (pa_cons pe_int pa_nil)))) pe_int) (pa_cons (pe_call GNu hr3 (by rfl) gNu FNu.kp bNu .nil pass0 (pa_cons (pv 0) pa_nil)) pa_nil)))) pa_nil))))))
      (pss_one (ps_ret (pe_callTy call_tuple_of (by rfl) m_tuple (by decide +kernel) (pa_cons (pv 1) pa_nil))))), ?_⟩
    refine ⟨by show 0 ≤ sizeLine; decide, fun fo nfo => ?_⟩
    have x0 : SX b H (upd H fo (.lst [])) := (SX.refl b H).new nfo
    have B0 := hB.new (o := .lst []) nfo
    have bfo := box_ne hB nfo
    have e0 : upd H fo (.lst []) fo = some (.lst []) := upd_same
    generalize upd H fo (HO.lst []) = G0 at x0 B0 e0 ⊢
    refine ⟨_, rfl, by show 5 ≤ sizeLine; decide, fun l nl => ?_⟩
    refine ⟨b, l, _, _, rfl, B0.new nl, by omega, upd_same, box_ne B0 nl, by show 1 ≤ 5; decide, by show 5 ≤ 1000; decide, fun x G1 hx B1 k1 => ?_⟩
    have x1 : SX b H G1 := (x0.new nl).trans (.of_eq k1)
    have e1 : G1 fo = some (.lst []) := by rw [k1 _ bfo.symm]; exact same_upd nl _ _ e0
    obtain ⟨c, rfl, c2⟩ : ∃ c : Nat, x = .int (c : Nat) ∧ c ≤ 20 := by
      simp only [List.mem_cons, List.not_mem_nil, or_false] at hx
      rcases hx with h | h | h | h | h
      · exact ⟨0, h, by decide⟩
      · exact ⟨1, h, by decide⟩
      · exact ⟨2, h, by decide⟩
      · exact ⟨3, h, by decide⟩
      · exact ⟨20, h, by decide⟩
    refine ⟨(c : Int), rfl, by omega, by omega, ?_⟩
    rw [Int.toNat_natCast]
    refine for_range (lo := 0) (n := c) (fun i σ G => ∃ (y2 y3 : Option V) (ts : List Addr) (rs : List (Nat × Nat × Nat)), σ = [some (.ref b), some (.ref fo), y2, y3] ∧ SX b H G ∧ Box G b (n + 1 + 5 * i) ∧ G fo = some (.lst (ts.map V.ref)) ∧ RunsAt G ts rs ∧ rs.length = i ∧ ∀ r ∈ rs, TX.GoodRun r) ⟨none, none, [], [], rfl, x1, B1, e1, RunsAt.nil, rfl, fun r h => nomatch h⟩ ?_ ?_
    · rintro i σ G hi ⟨y2, y3, ts, rs, rfl, xG, BG, ef, hR, hl, good⟩
      refine ⟨_, rfl, b, 12, _, rfl, BG, by omega, by decide, by decide, fun u G2 u0 u1 B2 k2 => ?_⟩
      obtain ⟨i', rfl⟩ := Int.eq_ofNat_of_zero_le u0
      have ef2 : G2 fo = some (.lst (ts.map V.ref)) := by rw [k2 _ bfo.symm]; exact ef
      refine ⟨_, rfl, .inl ⟨rfl, _, SqL.of ef2⟩, _, rfl, _, rfl, _, 1, rfl, rfl, _, rfl, b, 11, _, rfl, B2, by omega, by decide, by decide, fun u' G3 u0' u1' B3 k3 => ?_⟩
      obtain ⟨d, rfl⟩ := Int.eq_ofNat_of_zero_le u0'
      refine ⟨_, _, rfl, rfl, _, 12, rfl, rfl, by show (0 : Int) < 12; decide, ?_⟩
      dsimp only
      have ej : ((i' : Nat) : Int) + 1 + ((d : Nat) : Int) = ((i' + 1 + d : Nat) : Int) := by omega
      rw [ej, show ((i' + 1 + d : Nat) : Int) % 12 = (((i' + 1 + d) % 12 : Nat) : Int) by omega]
      refine ⟨_, rfl, b, _, rfl, B3, by omega, fun v G4 hv x4 B4 => ?_⟩
      refine ⟨by show 3 ≤ sizeLine; decide, fun t nt => ?_⟩
      have kt : ∀ a xs, G a = some (.tup xs) → upd G4 t (.tup ([V.int ((i' : Nat) : Int), V.int (((i' + 1 + d) % 12 : Nat) : Int), V.int ((v : Nat) : Int)])) a = some (.tup xs) := fun a xs h => by
        have nb := box_tup BG h
        exact same_upd nt _ _ (x4 _ _ nb (by rw [k3 _ nb, k2 _ nb]; exact h))
      have ef4 : upd G4 t (.tup ([V.int ((i' : Nat) : Int), V.int (((i' + 1 + d) % 12 : Nat) : Int), V.int ((v : Nat) : Int)])) fo = some (.lst (ts.map V.ref)) := same_upd nt _ _ (x4 _ _ bfo.symm (by rw [k3 _ bfo.symm]; exact ef2))
      have et : upd G4 t (.tup ([V.int ((i' : Nat) : Int), V.int (((i' + 1 + d) % 12 : Nat) : Int), V.int ((v : Nat) : Int)])) t = some (.tup ([V.int ((i' : Nat) : Int), V.int (((i' + 1 + d) % 12 : Nat) : Int), V.int ((v : Nat) : Int)])) := upd_same
      have x5 : SX b H (upd G4 t (.tup ([V.int ((i' : Nat) : Int), V.int (((i' + 1 + d) % 12 : Nat) : Int), V.int ((v : Nat) : Int)]))) := (((xG.trans (.of_eq k2)).trans (.of_eq k3)).trans x4).new nt
      have B5 := B4.new (o := .tup ([V.int ((i' : Nat) : Int), V.int (((i' + 1 + d) % 12 : Nat) : Int), V.int ((v : Nat) : Int)])) nt
      generalize upd G4 t (HO.tup ([V.int ((i' : Nat) : Int), V.int (((i' + 1 + d) % 12 : Nat) : Int), V.int ((v : Nat) : Int)])) = G5 at kt ef4 et x5 B5 ⊢
      have hts : ts.length = i := by rw [hR.1, hl]
      refine ⟨fo, _, _, rfl, rfl, ef4, by rw [List.length_map, hts]; exact small1000 (by omega), _, _, ts ++ [t], rs ++ [(i', (i' + 1 + d) % 12, v)], rfl, x5.set nfo, (B5.set bfo).le (by omega), by rw [upd_same, List.map_append]; rfl, ?_, by rw [List.length_append, hl]; rfl, fun r hr => ?_⟩
      · exact ((hR.mono kt).snoc et).mono fun a xs h => by
          rw [upd_ne (fun y => by rw [y, ef4] at h; cases h)]
          exact h
      · rcases List.mem_append.mp hr with h | h
        · exact good r h
        · rw [List.mem_singleton.mp h]
          refine ⟨by show i' < 12; omega, Nat.mod_lt _ (by decide), ?_, hv⟩
          show i' ≠ (i' + 1 + d) % 12
          omega
    · rintro σ G ⟨y2, y3, ts, rs, rfl, xG, BG, ef, hR, hl, good⟩
      refine ⟨_, rfl, fo, _, rfl, .inl ⟨SqL.of ef, fun t nt => ?_⟩⟩
      exact want t _ ts rs (by omega) good (xG.new nt) ((BG.new nt).le (by omega)) upd_same (hR.mono fun a xs h => same_upd nt _ _ h)
end
end K60

namespace K60
open PySem PySem.Spec PyProof.Rows L2 MG
abbrev sRt : Stmt := topS 28
abbrev nRt : List Str := ["_law_row", "_law_amount"]
theorem scRt : FnScope ["_law_row", "_law_amount"] ["_law_row"] (defScope sRt) := ⟨rfl, rfl, rfl, by decide +kernel, rfl, by decide +kernel, by decide +kernel⟩
abbrev sPtx : Stmt := topS 29
abbrev nPtx : List Str := ["_law_plan_here", "_law_i", "_law_j", "_law_k", "_law_some"]
theorem scPtx : FnScope ["_law_plan_here", "_law_i", "_law_j", "_law_k", "_law_some"] ["_law_plan_here"] (defScope sPtx) := ⟨rfl, rfl, rfl, by decide +kernel, rfl, by decide +kernel, by decide +kernel⟩
section
variable {P : Program} {w : World} {K : PySem.W.Frag} {mg : Str → Option Value} {base : Heap}
theorem log_small {n : Nat} (h : n < 10 ^ 30) : (((n : Nat) : Int)).natAbs.log2 < 1920 := by
  rw [Int.natAbs_natCast]
  by_cases z : n = 0
  · subst z; decide
  · exact Nat.lt_of_lt_of_le ((Nat.log2_lt z).mpr (Nat.lt_trans h (show 10 ^ 30 < 2 ^ 100 by decide))) (by decide)
def spRt : Sp := fun vs H Q _ => ∃ (a : Addr) (ns : List Nat), vs = [.ref a] ∧ H a = some (.tup (intsV ns)) ∧ ns.length ≤ 13 ∧ (∀ n ∈ ns, n < 10 ^ 30) ∧ ∀ (z : Str) H', Same H H' → TL.tl z = TX.rowL ns → TX.Tok z 500 → Q (.str z) H'
theorem ok_rt {f : Addr} {fd : FuncData} {k : Nat} (F : Fun K "_law_row_text" "_law_row_text" sRt f fd) (m_str : mg "str" = none) : FnOk P w K mg base CX0 (k + 1) f fd ["_law_row"] spRt := by
  refine F.ok scRt (fun vs H Q E h => ?_) (fun cdv A outer s H vs Q E hr h => ?_)
  · obtain ⟨a, ns, rfl, _⟩ := h
    rfl
  · obtain ⟨a, ns, rfl, ea, l13, le, want⟩ := h
    refine ⟨_, pss_one (ps_ret (pe_join pe_str (pe_lc (own := [("_law_amount", 1)]) (g := gName 1) (tt := tYes) rfl scRt.nd (pi_tup (pv 0)) (blkOk_by (N := nRt) (sc := defScope sRt) (by decide +kernel)) (fun _ _ _ _ _ => pg_name (i := 1) scRt.nd rfl (Or.inl rfl)) (fun _ _ _ _ _ => pts_nil) (fun _ _ _ _ _ => pe_callTy call_str_int (by rfl) m_str (by decide +kernel) (pa_cons (pv 1) pa_nil))))), ?_⟩
    refine ⟨⟨_, rfl⟩, _, rfl, a, rfl, ⟨_, SqT.of ea⟩, fun D nD => ?_⟩
    refine lc_tup (K := K) (a := a) (xs := intsV ns) (fun m G => Same H G ∧ G D = some (.lst (((ns.take m).map fun (n : Nat) => Str.ofString (toString ((n : Nat) : Int))).map V.str))) ⟨same_upd nD, upd_same⟩ ?_ ?_ ?_
    · rintro m G _ ⟨sm, _⟩
      exact SqT.of (sm _ _ ea)
    · rintro m v G hv ⟨sm, hD⟩
      unfold intsV at hv
      rw [List.getElem?_map] at hv
      obtain ⟨n, hn, rfl⟩ := Option.map_eq_some_iff.mp hv
      refine ⟨rfl, _, rfl, _, rfl, log_small (le n (List.mem_of_getElem? hn)), _, hD, by rw [List.length_map, List.length_map, List.length_take]; exact small1000 (by omega), fun b o hb => ?_, ?_⟩
      · rw [upd_ne (ne_of_none hb nD)]
        exact sm b o hb
      · rw [upd_same, List.take_add_one, hn, List.map_append, List.map_append]; rfl
    · rintro G ⟨sm, hD⟩
      rw [show (intsV ns).length = ns.length from List.length_map _, List.take_length] at hD
      have toks : ∀ p ∈ ns.map (fun (n : Nat) => Str.ofString (toString ((n : Nat) : Int))), TX.Tok p 30 := fun p hp => by
        obtain ⟨n, hn, rfl⟩ := List.mem_map.mp hp
        exact TX.num_tok (by decide) (le n hn)
      obtain ⟨tk, tl⟩ := TX.join_tok (y := " ") eq_blank (by decide) toks
      rw [List.length_map] at tk
      have tl2 : TL.tl (Txt.join " " (ns.map fun (n : Nat) => Str.ofString (toString ((n : Nat) : Int)))) = TX.rowL ns := by
        rw [tl, List.map_map]
        unfold TX.rowL
        congr 1
        exact List.map_congr_left fun n _ => TL.tl_num n
      refine ⟨" ", D, _, rfl, rfl, .inl (SqL.of hD), ?_, want _ G sm tl2 (tk.le (by omega))⟩
      have : ∀ l : List Str, (∀ p ∈ l, TX.Tok p 30) → (l.map (·.length)).sum ≤ l.length * 30 := fun l => by
        induction l with
        | nil => intro _; exact Nat.zero_le _
        | cons p l ih =>
          intro h
          have h1 := (h p List.mem_cons_self).1
          have h2 := ih fun q hq => h q (List.mem_cons_of_mem _ hq)
          rw [List.map_cons, List.sum_cons, List.length_cons]
          omega
      have h1 := this _ toks
      rw [List.length_map] at h1
      rw [List.length_map, show (" " : Str).length = 1 by decide +kernel]
      omega
theorem sum_tok {k : Nat} : ∀ l : List Str, (∀ p ∈ l, TX.Tok p k) → (l.map (·.length)).sum ≤ l.length * k
  | [], _ => Nat.zero_le _
  | p :: l, h => by
    have h1 := (h p List.mem_cons_self).1
    have h2 := sum_tok l fun q hq => h q (List.mem_cons_of_mem _ hq)
    rw [List.map_cons, List.sum_cons, List.length_cons, Nat.succ_mul]
    omega
/-- a run as it is written -/
def runS (r : Nat × Nat × Nat) : Str := Str.ofString (toString ((r.1 : Nat) : Int)) ++ ">" ++ Str.ofString (toString ((r.2.1 : Nat) : Int)) ++ "*" ++ Str.ofString (toString ((r.2.2 : Nat) : Int))
theorem runS_tl (r : Nat × Nat × Nat) : TL.tl (runS r) = TX.runL r := by
  unfold runS TX.runL
  rw [TL.tl_append, TL.tl_append, TL.tl_append, TL.tl_append, TL.tl_num, TL.tl_num, TL.tl_num, eq_arrow, eq_star, List.append_assoc, List.append_assoc, List.append_assoc]
  rfl
theorem one_tok {z : Str} {c : Nat} (h : TL.tl z = [c]) (hc : c < 1114112) : TX.Tok z 1 := ⟨by rw [TL.len_tl, h]; exact Nat.le_refl _, fun d hd => by rw [h] at hd; rw [List.mem_singleton.mp hd]; exact hc⟩
theorem runS_tok {r : Nat × Nat × Nat} (h : TX.GoodRun r) : TX.Tok (runS r) 36 := by
  obtain ⟨h1, h2, _, h4⟩ := h
  exact (TX.cat_tok (TX.cat_tok (TX.cat_tok (TX.cat_tok (TX.num_tok (k := 2) (by decide) (by omega)) (one_tok eq_arrow (by decide))) (TX.num_tok (k := 2) (by decide) (by omega))) (one_tok eq_star (by decide))) (TX.num_tok (k := 30) (by decide) h4)).le (by decide)
def spPtx : Sp := fun vs H Q _ => ∃ (a : Addr) (ts : List Addr) (rs : List (Nat × Nat × Nat)), vs = [.ref a] ∧ H a = some (.tup (ts.map V.ref)) ∧ RunsAt H ts rs ∧ rs.length ≤ 400 ∧ (∀ r ∈ rs, TX.GoodRun r) ∧ ∀ (z : Str) H', Same H H' → TL.tl z = TX.planL rs → TX.Tok z (37 * rs.length + 1) → Q (.str z) H'
theorem ok_ptx {f : Addr} {fd : FuncData} {k : Nat} (F : Fun K "_law_plan_text" "_law_plan_text" sPtx f fd) (m_str : mg "str" = none) : FnOk P w K mg base CX0 (k + 1) f fd ["_law_plan_here"] spPtx := by
  refine F.ok scPtx (fun vs H Q E h => ?_) (fun cdv A outer s H vs Q E hr h => ?_)
  · obtain ⟨a, ts, rs, rfl, _⟩ := h
    rfl
  · obtain ⟨a, ts, rs, rfl, ea, hR, l4, good, want⟩ := h
    refine ⟨_, pss_cons (ps_setLc (i := 4) (own := [("_law_i", 1), ("_law_j", 2), ("_law_k", 3)]) (g := gTup K 3 (gCons (gName 1) (gCons (gName 2) (gCons (gName 3) gNil)))) (tt := tYes) rfl scPtx.nd rfl rfl (sw_true rfl rfl rfl (by decide +kernel)) (pi_tup (pv 0)) (blkOk_by (N := nPtx) (sc := defScope sPtx) (by decide +kernel)) (fun _ _ _ _ _ => pg_tup rfl (pgs_cons (pg_name (i := 1) scPtx.nd rfl (.inl rfl) (.inr rfl)) (pgs_cons (pg_name (i := 2) scPtx.nd rfl (.inl rfl) (.inr rfl)) (pgs_cons (pg_name (i := 3) scPtx.nd rfl (.inl rfl) (.inr rfl)) pgs_nil)))) (fun _ _ _ _ _ => pts_nil) (fun _ _ _ _ _ => pe_op op_add_str (pe_op op_add_str (pe_op op_add_str (pe_op op_add_str (pe_callTy call_str_int (by rfl) m_str (by decide +kernel) (pa_cons (pv 1) pa_nil)) pe_str) (pe_callTy call_str_int (by rfl) m_str (by decide +kernel) (pa_cons (pv 2) pa_nil))) pe_str) (pe_callTy call_str_int (by rfl) m_str (by decide +kernel) (pa_cons (pv 3) pa_nil))))
      (pss_one (ps_ret (pe_ifExp (pt_cmpR (op_neD hr.units) (pv 4) (pe_lst pa_nil) (nomark _)) (pe_join pe_str (pv 4)) pe_str))), ?_⟩
    refine ⟨_, rfl, a, rfl, ⟨_, SqT.of ea⟩, fun D nD => ?_⟩
    refine lc_tup (K := K) (a := a) (xs := ts.map V.ref) (fun m G => Same H G ∧ G D = some (.lst (((rs.take m).map runS).map V.str))) ⟨same_upd nD, upd_same⟩ ?_ ?_ ?_
    · rintro m G _ ⟨sm, _⟩
      exact SqT.of (sm _ _ ea)
    · rintro m v G hv ⟨sm, hD⟩
      rw [List.getElem?_map] at hv
      obtain ⟨t, ht, rfl⟩ := Option.map_eq_some_iff.mp hv
      have hm : m < ts.length := (List.getElem?_eq_some_iff.mp ht).1
      have hr : rs[m]? = some (rs[m]'(by rw [← hR.1]; exact hm)) := List.getElem?_eq_getElem _
      generalize rs[m]'(by rw [← hR.1]; exact hm) = r at hr
      have et := sm _ _ (hR.2 m t r ht hr)
      have gr := good r (List.mem_of_getElem? hr)
      obtain ⟨h1, h2, _, h4⟩ := id gr
      have t1 := TX.num_tok (n := r.1) (k := 2) (by decide) (by omega)
      have t2 := TX.num_tok (n := r.2.1) (k := 2) (by decide) (by omega)
      have t3 := TX.num_tok (n := r.2.2) (k := 30) (by decide) h4
      have c1 := TX.cat_tok t1 (one_tok eq_arrow (by decide))
      have c2 := TX.cat_tok c1 t2
      have c3 := TX.cat_tok c2 (one_tok eq_star (by decide))
      have c4 := TX.cat_tok c3 t3
      have l1 := t1.1; have l2 := t2.1; have l3 := t3.1; have m1 := c1.1; have m2 := c2.1; have m3 := c3.1
      have la : (">" : Str).length = 1 := by decide +kernel
      have ls : ("*" : Str).length = 1 := by decide +kernel
      refine ⟨t, _, rfl, SqT.of et, rfl, _, _, rfl, _, _, rfl, _, _, rfl, rfl, rfl, ?_⟩
      refine ⟨_, rfl, _, rfl, log_small (by omega), _, _, rfl, rfl, by rw [sizeLine_eq, la]; omega, _, rfl, _, rfl, log_small (by omega), _, _, rfl, rfl, by rw [sizeLine_eq]; omega, _, _, rfl, rfl, by rw [sizeLine_eq, ls]; omega, _, rfl, _, rfl, log_small h4, _, _, rfl, rfl, by rw [sizeLine_eq]; omega, ?_⟩
      refine ⟨_, hD, by rw [List.length_map, List.length_map, List.length_take]; exact small1000 (by omega), fun b o hb => ?_, ?_⟩
      · rw [upd_ne (ne_of_none hb nD)]
        exact sm b o hb
      · rw [upd_same, List.take_add_one, hr, List.map_append, List.map_append]; rfl
    · rintro G ⟨sm, hD⟩
      rw [List.length_map, hR.1, List.take_length] at hD
      refine ⟨_, rfl, by show 0 ≤ sizeLine; decide, fun l nl => ?_⟩
      have s2 : Same G (upd G l (.lst [])) := same_upd nl
      have e2 : upd G l (.lst []) l = some (.lst ([].map V.str)) := upd_same
      generalize upd G l (HO.lst []) = G2 at s2 e2 ⊢
      have hD2 := s2 _ _ hD
      have toks : ∀ p ∈ rs.map runS, TX.Tok p 36 := fun p hp => by
        obtain ⟨r, hr, rfl⟩ := List.mem_map.mp hp
        exact runS_tok (good r hr)
      refine ⟨.list ((rs.map runS).map PyData.str), .list (([] : List Str).map PyData.str), .lst (SqL.of hD2) (dpStrsG _), .lst (SqL.of e2) (dpStrsG _), shapedL_strs _ (fun p hp => canStr (toks p hp).2), shapedL_strs _ (fun p hp => nomatch hp), _, rfl, ?_⟩
      rw [eqvL_strs]
      by_cases hrs : rs = []
      · subst hrs
        rw [show (!decide (List.map runS [] = [])) = false by decide]
        exact iteF (want _ G2 (sm.trans s2) (by rw [eq_dash]; rfl) ((one_tok eq_dash (by decide)).le (by omega)))
      · rw [decide_eq_false (fun z => hrs (List.map_eq_nil_iff.mp z))]
        obtain ⟨tk, tl⟩ := TX.join_tok (y := " ") eq_blank (by decide) toks
        rw [List.length_map] at tk
        have tl2 : TL.tl (Txt.join " " (rs.map runS)) = TX.planL rs := by
          rw [tl, List.map_map]
          unfold TX.planL
          rw [if_neg hrs]
          congr 1
          exact List.map_congr_left fun r _ => runS_tl r
        have h1 := sum_tok _ toks
        rw [List.length_map] at h1
        refine iteT ⟨⟨_, rfl⟩, _, rfl, " ", D, rs.map runS, rfl, rfl, .inl (SqL.of hD2), ?_, want _ G2 (sm.trans s2) tl2 (tk.le (by omega))⟩
        rw [List.length_map, show (" " : Str).length = 1 by decide +kernel]
        omega
end
end K60

/-! MXd: runs or none, in a list -/
namespace MG
open PySem PySem.Spec PyProof.Rows L2
abbrev Run3 := Nat × Nat × Nat
def OptAt (H : Hp) (v : V) (o : Option Run3) : Prop := (o = none ∧ v = .non) ∨ ∃ (r : Run3) (t : Addr), o = some r ∧ v = .ref t ∧ H t = some (.tup (runV r))
inductive OptsAt (H : Hp) : List V → List (Option Run3) → Prop
  | nil : OptsAt H [] []
  | cons {v : V} {o : Option Run3} {vs : List V} {os : List (Option Run3)} : OptAt H v o → OptsAt H vs os → OptsAt H (v :: vs) (o :: os)
theorem RunsAt.cons {H : Hp} {t : Addr} {r : Run3} {ts : List Addr} {rs : List Run3} (e : H t = some (.tup (runV r))) (h : RunsAt H ts rs) : RunsAt H (t :: ts) (r :: rs) := by
  refine ⟨by rw [List.length_cons, List.length_cons, h.1], fun i t' r' a b => ?_⟩
  match i, a, b with
  | 0, a, b => cases a; cases b; exact e
  | i + 1, a, b => exact h.2 i t' r' a b
def oDt : Option Run3 → PyData
  | none => .none
  | some r => .tuple [.int (r.1 : Nat), .int (r.2.1 : Nat), .int (r.2.2 : Nat)]
theorem opts_shaped (os : List (Option Run3)) : SeqAt.shaped (.list (os.map oDt)) = true := by
  have h1 : ∀ os : List (Option Run3), PyData.canLayAll0 (os.map oDt) = true := fun os => by
    induction os with
    | nil => rfl
    | cons o os ih => rw [List.map_cons, PyData.canLayAll0, ih]; cases o <;> rfl
  have h2 : ∀ os : List (Option Run3), PyData.depthAll (os.map oDt) ≤ 1 := fun os => by
    induction os with
    | nil => exact Nat.zero_le _
    | cons o os ih =>
      rw [List.map_cons, PyData.depthAll]
      refine Nat.max_le.mpr ⟨?_, ih⟩
      cases o with
      | none => exact Nat.zero_le _
      | some r => exact Nat.le_refl _
  unfold SeqAt.shaped
  rw [PyData.canLay0, h1, PyData.depth, Bool.true_and]
  have := h2 os
  exact decide_eq_true (by omega)
end MG
namespace TX
open PySem TL
/-- words, so many signs and gaps at most -/
def Wds (ys : List Str) (n : Nat) : Prop := (ys.map fun y => y.length + 1).sum ≤ n ∧ ∀ y ∈ ys, ∀ c ∈ tl y, c < 1114112
end TX

/-! MXe: a short tuple many times over; a reading that can't fail here -/
namespace MG
open PySem PySem.Spec PyProof.Rows L2
section
variable {P : Program} {w : World} {K : PySem.W.Frag} {mg : Str → Option Value} {base : Heap}
/-- a def that may raise, where it is asked for nothing that it refuses -/
theorem calm_ok {k : Nat} {f : Addr} {fd : FuncData} {ps : List Str} {sp sp' : Sp} (F : FnOk P w K mg base (L2.CX P w) k f fd ps sp) (h : ∀ vs H Q E, sp' vs H Q E → sp vs H Q fun _ _ _ => False) : FnOk P w K mg base CX0 k f fd ps sp' := by
  refine ⟨fun vs H Q E s => F.len vs H Q _ (h _ _ _ _ s), fun A outer s H args us vs Q E a b c d e => codeAny_mono (F.run A outer s H args us vs Q (fun _ _ _ => False) a b c d (h _ _ _ _ e)) fun r s' z => ?_⟩
  cases r with
  | ok fl => cases fl <;> exact z
  | error u =>
    obtain ⟨_, _, _, _, _, _, _, _, _, _, _, _, z⟩ := z
    exact z
end
/-- a short tuple many times over -/
def rRepM (K : PySem.W.Frag) : R2 := fun x y H Q => ∃ l k xs, x = .ref l ∧ y = .int k ∧ SqT K H l xs ∧ xs ≠ [] ∧ 2 ≤ k ∧ k ≤ 100000 ∧ xs.length ≤ 10 ∧ ∀ p, H p = none → Q (.ref p) (upd H p (.tup (List.replicate k.toNat xs).flatten))
theorem op_repM {X : Cx} : OpR X (binaryOp .Mult) (rRepM X.K) := by
  intro pins s σ H x y v u Q I rx ry h
  obtain ⟨l, k, xs, rfl, rfl, sq, ne, k1, k2, lx, q⟩ := h
  cases rx
  obtain ⟨t, rfl⟩ := ry
  obtain ⟨its, r, ⟨⟨cls, dd, data, sl⟩, ho, hc, n, hd⟩, hs⟩ := I.tuple sq
  simp only at hc hd
  subst hc hd
  have le : its.length = xs.length := r.length.symm
  have em : its.toArray.isEmpty = false := by
    cases its with
    | nil => exact absurd (List.eq_nil_of_length_eq_zero le.symm) ne
    | cons a b => rfl
  have few : ((its.toArray.size : Nat) : Int) * k ≤ 1000000 := by
    have a1 : ((its.toArray.size : Nat) : Int) * k ≤ 10 * k := Int.mul_le_mul_of_nonneg_right (by rw [List.size_toArray, le]; omega) (by omega)
    omega
  have fewN : k.toNat * xs.length ≤ 100000 * 10 := Nat.mul_le_mul (by omega) lx
  refine wpAny_binaryOp_repeat_ref (T := "tuple") (U := "int") (by decide) ⟨_, ho, rfl⟩ (fun s' => typeIs_int s' k t) noFill_tuple_mul F.fills_int_mul F.slot_int_rmul repeat_tuple F.slot_int_index.lookup
    (call_meets F.slot_int_rmul (typeIs_int s k t) F.entry_int_rmul (F.args_int_rmul_2 _ _) (int_rmul_tuple k t l its.toArray n dd sl) ⟨ho, rfl, ⟨_, ho, rfl⟩,
      call_meets F.slot_tuple_mul ⟨_, ho, rfl⟩ F.entry_tuple_mul (F.args_tuple_mul_2 _ _) (tuple_mulW l its.toArray n dd sl k t (by rw [decide_eq_false (by omega), decide_eq_false (by omega)] <;> rfl)
        (by rw [em, Bool.false_or]; exact beq_eq_false_iff_ne.mpr (by omega)) (by rw [em, Bool.or_false]; exact decide_eq_false (by omega)) (by omega) (by unfold Builtin.Tuple.tupleTooMany; rw [sizeLine_eq]; exact decide_eq_false (by omega))
        (by rw [size_rep, List.size_toArray, lm_len_rep_flat, le, sizeLine_eq]; omega)) ⟨ho, ?_⟩⟩)
  rw [size_rep]
  refine ⟨.ref s.heap.objs.size, _, I.laid (t' := s.toks) (o := .tup (List.replicate k.toNat xs).flatten) (fun b ob e => Heap.get?_push_of_some _ e) (Nat.le_refl _) ⟨by rw [lm_len_rep_flat, sizeLine_eq]; omega, _, r.rep k.toNat, IsTup.new _ _⟩, rfl, q _ (I.hok.fresh (Nat.le_refl _))⟩
end MG

namespace K60
open PySem PySem.Spec PyProof.Rows L2 MG
abbrev sSr : Stmt := topS 15
abbrev nSr : List Str := ["row", "amount"]
theorem scSr : FnScope ["row", "amount"] ["row"] (defScope sSr) := ⟨rfl, rfl, rfl, by decide +kernel, rfl, by decide +kernel, by decide +kernel⟩
abbrev sSu : Stmt := topS 16
abbrev nSu : List Str := ["run", "i", "j", "k"]
theorem scSu : FnScope ["run", "i", "j", "k"] ["run"] (defScope sSu) := ⟨rfl, rfl, rfl, by decide +kernel, rfl, by decide +kernel, by decide +kernel⟩
abbrev sSp : Stmt := topS 17
abbrev nSp : List Str := ["plan", "run"]
theorem scSp : FnScope ["plan", "run"] ["plan"] (defScope sSp) := ⟨rfl, rfl, rfl, by decide +kernel, rfl, by decide +kernel, by decide +kernel⟩
section
variable {P : Program} {w : World} {K : PySem.W.Frag} {mg : Str → Option Value} {base : Heap}
/-- a row shown -/
def spSr : Sp := fun vs H Q _ => ∃ (a : Addr) (ns : List Nat), vs = [.ref a] ∧ H a = some (.tup (intsV ns)) ∧ ns.length ≤ 13 ∧ (∀ n ∈ ns, n < 10 ^ 30) ∧ ∀ (z : Str) H', Same H H' → TL.tl z = TX.rowL ns → TX.Tok z 500 → Q (.str z) H'
theorem ok_sr {f : Addr} {fd : FuncData} {k : Nat} (F : Fun K "show_row" "show_row" sSr f fd) (m_str : mg "str" = none) : FnOk P w K mg base CX0 (k + 1) f fd ["row"] spSr := by
  refine F.ok scSr (fun vs H Q E h => ?_) (fun cdv A outer s H vs Q E hr h => ?_)
  · obtain ⟨a, ns, rfl, _⟩ := h
    rfl
  · obtain ⟨a, ns, rfl, ea, l13, le, want⟩ := h
    refine ⟨_, pss_one (ps_ret (pe_join pe_str (pe_lc (own := [("amount", 1)]) (g := gName 1) (tt := tYes) rfl scSr.nd (pi_tup (pv 0)) (blkOk_by (N := nSr) (sc := defScope sSr) (by decide +kernel)) (fun _ _ _ _ _ => pg_name (i := 1) scSr.nd rfl (Or.inl rfl)) (fun _ _ _ _ _ => pts_nil) (fun _ _ _ _ _ => pe_callTy call_str_int (by rfl) m_str (by decide +kernel) (pa_cons (pv 1) pa_nil))))), ?_⟩
    refine ⟨⟨_, rfl⟩, _, rfl, a, rfl, ⟨_, SqT.of ea⟩, fun D nD => ?_⟩
    refine lc_tup (K := K) (a := a) (xs := intsV ns) (fun m G => Same H G ∧ G D = some (.lst (((ns.take m).map fun (n : Nat) => Str.ofString (toString ((n : Nat) : Int))).map V.str))) ⟨same_upd nD, upd_same⟩ ?_ ?_ ?_
    · rintro m G _ ⟨sm, _⟩
      exact SqT.of (sm _ _ ea)
    · rintro m v G hv ⟨sm, hD⟩
      unfold intsV at hv
      rw [List.getElem?_map] at hv
      obtain ⟨n, hn, rfl⟩ := Option.map_eq_some_iff.mp hv
      refine ⟨rfl, _, rfl, _, rfl, log_small (le n (List.mem_of_getElem? hn)), _, hD, by rw [List.length_map, List.length_map, List.length_take]; exact small1000 (by omega), fun b o hb => ?_, ?_⟩
      · rw [upd_ne (ne_of_none hb nD)]
        exact sm b o hb
      · rw [upd_same, List.take_add_one, hn, List.map_append, List.map_append]; rfl
    · rintro G ⟨sm, hD⟩
      rw [show (intsV ns).length = ns.length from List.length_map _, List.take_length] at hD
      have toks : ∀ p ∈ ns.map (fun (n : Nat) => Str.ofString (toString ((n : Nat) : Int))), TX.Tok p 30 := fun p hp => by
        obtain ⟨n, hn, rfl⟩ := List.mem_map.mp hp
        exact TX.num_tok (by decide) (le n hn)
      obtain ⟨tk, tl⟩ := TX.join_tok (y := " ") eq_blank (by decide) toks
      rw [List.length_map] at tk
      have tl2 : TL.tl (Txt.join " " (ns.map fun (n : Nat) => Str.ofString (toString ((n : Nat) : Int)))) = TX.rowL ns := by
        rw [tl, List.map_map]
        unfold TX.rowL
        congr 1
        exact List.map_congr_left fun n _ => TL.tl_num n
      refine ⟨" ", D, _, rfl, rfl, .inl (SqL.of hD), ?_, want _ G sm tl2 (tk.le (by omega))⟩
      have : ∀ l : List Str, (∀ p ∈ l, TX.Tok p 30) → (l.map (·.length)).sum ≤ l.length * 30 := fun l => by
        induction l with
        | nil => intro _; exact Nat.zero_le _
        | cons p l ih =>
          intro h
          have h1 := (h p List.mem_cons_self).1
          have h2 := ih fun q hq => h q (List.mem_cons_of_mem _ hq)
          rw [List.map_cons, List.sum_cons, List.length_cons]
          omega
      have h1 := this _ toks
      rw [List.length_map] at h1
      rw [List.length_map, show (" " : Str).length = 1 by decide +kernel]
      omega
/-- a run shown -/
def spSu : Sp := fun vs H Q _ => ∃ (t : Addr) (r : Run3), vs = [.ref t] ∧ H t = some (.tup (runV r)) ∧ TX.GoodRun r ∧ ∀ (z : Str), TL.tl z = TX.runL r → TX.Tok z 36 → Q (.str z) H
theorem ok_su {f : Addr} {fd : FuncData} {k : Nat} (F : Fun K "show_run" "show_run" sSu f fd) : FnOk P w K mg base CX0 (k + 1) f fd ["run"] spSu := by
  refine F.ok scSu (fun vs H Q E h => ?_) (fun cdv A outer s H vs Q E hr h => ?_)
  · obtain ⟨t, r, rfl, _⟩ := h
    rfl
  · obtain ⟨t, r, rfl, et, gr, want⟩ := h
    refine ⟨_, pss_cons (ps_asg (pv 0) (pg_tup rfl (pgs_cons (pg_name (i := 1) scSu.nd rfl (.inl rfl)) (pgs_cons (pg_name (i := 2) scSu.nd rfl (.inl rfl)) (pgs_cons (pg_name (i := 3) scSu.nd rfl (.inl rfl)) pgs_nil)))))
      (pss_one (ps_ret (pe_joined (.cons (pe_fmt (pv 1)) (.cons pe_str (.cons (pe_fmt (pv 2)) (.cons pe_str (.cons (pe_fmt (pv 3)) .nil)))))))), ?_⟩
    obtain ⟨h1, h2, _, h4⟩ := id gr
    have t1 := TX.num_tok (n := r.1) (k := 2) (by decide) (by omega)
    have t2 := TX.num_tok (n := r.2.1) (k := 2) (by decide) (by omega)
    have t3 := TX.num_tok (n := r.2.2) (k := 30) (by decide) h4
    have c0 : TX.Tok Str.empty 0 := ⟨by decide, by decide +kernel⟩
    have c1 := TX.cat_tok c0 t1
    have c2 := TX.cat_tok c1 (one_tok eq_arrow (by decide))
    have c3 := TX.cat_tok c2 t2
    have c4 := TX.cat_tok c3 (one_tok eq_star (by decide))
    have c5 := TX.cat_tok c4 t3
    have sm : ∀ {z : Str} {n : Nat}, TX.Tok z n → n ≤ 100 → z.length ≤ sizeLine := fun h l => by have := h.1; rw [sizeLine_eq]; omega
    refine ⟨_, rfl, t, _, rfl, .inl (.inl et), rfl, .int (r.1 : Nat), [.int (r.2.1 : Nat), .int (r.2.2 : Nat)], rfl, .int (r.2.1 : Nat), [.int (r.2.2 : Nat)], rfl, .int (r.2.2 : Nat), [], rfl, rfl, ?_⟩
    refine ⟨_, rfl, .inr ⟨_, rfl, log_small (by omega), _, rfl, sm c1 (by omega), _, rfl, sm c2 (by omega), _, rfl, .inr ⟨_, rfl, log_small (by omega), _, rfl, sm c3 (by omega), _, rfl, sm c4 (by omega), _, rfl, .inr ⟨_, rfl, log_small h4, _, rfl, sm c5 (by omega), ?_⟩⟩⟩⟩
    refine want _ ?_ (c5.le (by omega))
    have := runS_tl r
    unfold runS at this
    simp only [TL.tl_append] at this ⊢
    rw [show TL.tl Str.empty = [] from rfl, List.nil_append]
    exact this
/-- a plan shown -/
def spSp : Sp := fun vs H Q _ => ∃ (a : Addr) (ts : List Addr) (rs : List Run3), vs = [.ref a] ∧ H a = some (.tup (ts.map V.ref)) ∧ RunsAt H ts rs ∧ rs.length ≤ 20000 ∧ (∀ r ∈ rs, TX.GoodRun r) ∧ ∀ (z : Str) H', Same H H' → TL.tl z = TX.planL rs → TX.Tok z (37 * rs.length + 1) → Q (.str z) H'
theorem ok_sp {f fSu : Addr} {fd fdSu : FuncData} {k : Nat} (F : Fun K "show_plan" "show_plan" sSp f fd)
    (FSu : Fun K "show_run" "show_run" sSu fSu fdSu) (bSu : Binds K fdSu ["run"] []) (gSu : mg "show_run" = some (.ref fSu)) (GSu : FnOk P w K mg base CX0 (k + 1) fSu fdSu ["run"] spSu) : FnOk P w K mg base CX0 (k + 2) f fd ["plan"] spSp := by
  refine F.ok scSp (fun vs H Q E h => ?_) (fun cdv A outer s H vs Q E hr h => ?_)
  · obtain ⟨a, ts, rs, rfl, _⟩ := h
    rfl
  · obtain ⟨a, ts, rs, rfl, ea, hR, lr, good, want⟩ := h
    have hr1 := hr
    refine ⟨_, pss_cons (ps_if (pt_not (pt_truth (pv 0) (by intro _; rfl))) (pss_one (ps_ret pe_str)) pss_nil)
      (pss_one (ps_ret (pe_join pe_str (pe_lc (own := [("run", 1)]) (g := gName 1) (tt := tYes) rfl scSp.nd (pi_tup (pv 0)) (blkOk_by (N := nSp) (sc := defScope sSp) (by decide +kernel)) (fun _ _ _ _ _ => pg_name (i := 1) scSp.nd rfl (Or.inl rfl)) (fun _ _ _ _ _ => pts_nil) (fun _ _ _ _ _ => pe_call GSu hr1 (by rfl) gSu FSu.kp bSu .nil pass0 (pa_cons (pv 1) pa_nil)))))), ?_⟩
    refine ⟨_, rfl, _, .inr (.inl ⟨_, SqT.of ea, rfl⟩), ?_⟩
    by_cases hrs : rs = []
    · subst hrs
      have : ts = [] := List.eq_nil_of_length_eq_zero hR.1
      subst this
      exact iteT (want _ H (.refl H) (by rw [eq_dash]; rfl) ((one_tok eq_dash (by decide)).le (by omega)))
    have tne : (ts.map V.ref).isEmpty = false := by
      cases ts with
      | nil => exact absurd (List.eq_nil_of_length_eq_zero hR.1.symm) hrs
      | cons a b => rfl
    rw [tne]
    refine iteF ⟨⟨_, rfl⟩, _, rfl, a, rfl, ⟨_, SqT.of ea⟩, fun D nD => ?_⟩
    refine lc_tup (K := K) (a := a) (xs := ts.map V.ref) (fun m G => Same H G ∧ ∃ zs : List Str, G D = some (.lst (zs.map V.str)) ∧ zs.map TL.tl = (rs.take m).map TX.runL ∧ ∀ z ∈ zs, TX.Tok z 36) ⟨same_upd nD, [], upd_same, rfl, fun z h => nomatch h⟩ ?_ ?_ ?_
    · rintro m G _ ⟨sm, _⟩
      exact SqT.of (sm _ _ ea)
    · rintro m v G hv ⟨sm, zs, hD, ez, tz⟩
      rw [List.getElem?_map] at hv
      obtain ⟨t, ht, rfl⟩ := Option.map_eq_some_iff.mp hv
      have hm : m < ts.length := (List.getElem?_eq_some_iff.mp ht).1
      have hr : rs[m]? = some (rs[m]'(by rw [← hR.1]; exact hm)) := List.getElem?_eq_getElem _
      generalize rs[m]'(by rw [← hR.1]; exact hm) = r at hr
      have lz := congrArg List.length ez
      rw [List.length_map, List.length_map, List.length_take] at lz
      refine ⟨rfl, _, rfl, t, r, rfl, sm _ _ (hR.2 m t r ht hr), good r (List.mem_of_getElem? hr), fun z tl tk => ?_⟩
      refine ⟨_, hD, by rw [List.length_map, sizeLine_eq]; omega, fun b o hb => ?_, zs ++ [z], ?_, ?_, fun y hy => ?_⟩
      · rw [upd_ne (ne_of_none hb nD)]
        exact sm b o hb
      · rw [upd_same, List.map_append]; rfl
      · rw [List.map_append, ez, List.take_add_one, hr, List.map_append, List.map_singleton, tl]; rfl
      · rcases List.mem_append.mp hy with h | h
        · exact tz y h
        · rw [List.mem_singleton.mp h]; exact tk
    · rintro G ⟨sm, zs, hD, ez, tz⟩
      rw [List.length_map, hR.1, List.take_length] at ez
      have lz := congrArg List.length ez
      rw [List.length_map, List.length_map] at lz
      obtain ⟨tk, tl⟩ := TX.join_tok (y := " ") eq_blank (by decide) tz
      have tl2 : TL.tl (Txt.join " " zs) = TX.planL rs := by
        rw [tl, ez]
        unfold TX.planL
        rw [if_neg hrs]
      have h1 := sum_tok _ tz
      refine ⟨" ", D, zs, rfl, rfl, .inl (SqL.of hD), by rw [show (" " : Str).length = 1 by decide +kernel]; omega, want _ G sm tl2 (tk.le (by omega))⟩
end
end K60

/-! MXf: rows and plans as data -/
namespace MG
open PySem PySem.Spec PyProof.Rows L2
/-- what a reading tells, or None -/
def rowR : Option (List Nat) → PyData
  | none => .none
  | some ns => .tuple ((ns.map fun (n : Nat) => (n : Int)).map PyData.int)
def planR : Option (List Run3) → PyData
  | none => .none
  | some rs => .tuple ((rs.map some).map oDt)
theorem runs_dd {H : Hp} {ts : List Addr} {rs : List Run3} (h : RunsAt H ts rs) : DdAll H (ts.map V.ref) ((rs.map some).map oDt) := by
  induction rs generalizing ts with
  | nil =>
    obtain ⟨l, _⟩ := h
    cases ts with
    | nil => exact .nil
    | cons a b => cases l
  | cons r rs ih =>
    cases ts with
    | nil => cases h.1
    | cons t ts =>
      refine .cons (.tup (h.2 0 t r rfl rfl) (.cons (.int _) (.cons (.int _) (.cons (.int _) .nil)))) (ih ⟨by have := h.1; simpa using this, fun i t' r' a b => h.2 (i + 1) t' r' a b⟩)
theorem row_sh {l : List Nat} {ns : List Nat} (h : TX.rowT l = some ns) : Sh 1 (40 * 303 + 3) (rowR (some ns)) := by
  unfold TX.rowT at h
  cases e : TX.allN ((TX.sp 32 [] l).map TX.numW) with
  | none => rw [e] at h; cases h
  | some ms =>
    rw [e] at h
    dsimp only at h
    by_cases hc : ms.length ≤ 12 ∧ 0 < ms.sum ∧ ms.sum < 10 ^ 30
    · rw [if_pos hc] at h
      cases h
      refine Sh.row (fun i hi => ?_) (by rw [List.length_map]; omega)
      obtain ⟨n, hn, rfl⟩ := List.mem_map.mp hi
      have h1 := TX.mem_sumN hn
      have h2 : (n : Int) < 10 ^ 30 := by
        have : n < 10 ^ 30 := by omega
        exact_mod_cast this
      exact ⟨Int.natCast_nonneg n, Int.lt_trans h2 (by decide)⟩
    · rw [if_neg hc] at h; cases h
theorem run_sh {l : List Nat} {r : Run3} (h : TX.runT l = some r) : Sh 1 (3 * 303 + 3) (oDt (some r)) := by
  have key : r.1 < 12 ∧ r.2.1 < 12 ∧ r.2.2 < 10 ^ 30 := by
    unfold TX.runT at h
    split at h
    · split at h
      · obtain ⟨i, j, k⟩ := r
        obtain ⟨_, _, h3, _, h5, h6⟩ := TX.three_some h
        exact ⟨h5, h6, (TX.numW_some h3).2.2.1⟩
      · cases h
    · cases h
  refine Sh.tup (c := 301) (m := 3) (fun d hd => ?_) (Nat.le_refl 3)
  simp only [List.mem_cons, List.not_mem_nil, or_false] at hd
  rcases hd with rfl | rfl | rfl
  · exact Sh.int (by rw [Int.natAbs_natCast]; exact Nat.lt_trans key.1 (by decide))
  · exact Sh.int (by rw [Int.natAbs_natCast]; exact Nat.lt_trans key.2.1 (by decide))
  · exact Sh.int (by rw [Int.natAbs_natCast]; exact Nat.lt_trans key.2.2 (by decide))
theorem plan_sh {l : List Nat} {rs : List Run3} (h : TX.planT l = some rs) (hl : l.length ≤ 8000) : Sh 2 (8001 * 914 + 3) (planR (some rs)) := by
  unfold TX.planT at h
  have key : rs.length ≤ 8001 ∧ ∀ r ∈ rs, ∃ l, TX.runT l = some r := by
    by_cases hc : TX.sp 32 [] l = [[45]]
    · rw [if_pos hc] at h; cases h
      exact ⟨Nat.zero_le _, fun r hr => nomatch hr⟩
    · rw [if_neg hc] at h
      have e := TX.allN_some.mp h
      have h1 := congrArg List.length e
      rw [List.length_map, List.length_map] at h1
      have h2 := TX.sp_most 32 l []
      refine ⟨by omega, fun r hr => ?_⟩
      have : some r ∈ (TX.sp 32 [] l).map TX.runT := by rw [e]; exact List.mem_map_of_mem hr
      obtain ⟨w, _, hw⟩ := List.mem_map.mp this
      exact ⟨w, hw⟩
  refine Sh.tup (c := 3 * 303 + 3) (m := 8001) (fun d hd => ?_) (by rw [List.length_map, List.length_map]; exact key.1)
  obtain ⟨o, ho, rfl⟩ := List.mem_map.mp hd
  obtain ⟨r, hr, rfl⟩ := List.mem_map.mp ho
  obtain ⟨l, hl⟩ := key.2 r hr
  exact run_sh hl
theorem runs_dp {K : PySem.W.Frag} {H : Hp} {ts : List Addr} {rs : List Run3} (h : RunsAt H ts rs) : DpAll K H (ts.map V.ref) ((rs.map some).map oDt) := by
  induction rs generalizing ts with
  | nil =>
    obtain ⟨l, _⟩ := h
    cases ts with
    | nil => exact .nil
    | cons a b => cases l
  | cons r rs ih =>
    cases ts with
    | nil => cases h.1
    | cons t ts =>
      refine .cons (.tup (SqT.of (h.2 0 t r rfl rfl)) (.cons (.int _) (.cons (.int _) (.cons (.int _) .nil)))) (ih ⟨by have := h.1; simpa using this, fun i t' r' a b => h.2 (i + 1) t' r' a b⟩)
theorem runs_shaped (rs : List Run3) : SeqAt.shaped (.tuple ((rs.map some).map oDt)) = true := by
  have := opts_shaped (rs.map some)
  have e1 : ∀ ds : List PyData, PyData.canLay0 (.tuple ds) = PyData.canLay0 (.list ds) := fun ds => by rw [PyData.canLay0, PyData.canLay0]
  have e2 : ∀ ds : List PyData, PyData.depth (.tuple ds) = PyData.depth (.list ds) := fun ds => by rw [PyData.depth, PyData.depth]
  unfold SeqAt.shaped at this ⊢
  rw [e1, e2]
  exact this
theorem eqv_runs (rs : List Run3) : PyData.eqv (.tuple ((rs.map some).map oDt)) (.tuple ((rs.map some).map oDt)) = true := by
  have all : ∀ rs : List Run3, PyData.eqvAll ((rs.map some).map oDt) ((rs.map some).map oDt) = true := fun rs => by
    induction rs with
    | nil => rfl
    | cons r rs ih =>
      rw [List.map_cons, List.map_cons, PyData.eqvAll, ih]
      have : PyData.eqv (oDt (some r)) (oDt (some r)) = (decide ((r.1 : Int) = r.1) && (decide ((r.2.1 : Int) = r.2.1) && (decide ((r.2.2 : Int) = r.2.2) && true))) := rfl
      rw [this, decide_eq_true rfl, decide_eq_true rfl, decide_eq_true rfl]
      rfl
  rw [PyData.eqv, all]
theorem tl_inj {a b : Str} (h : TL.tl a = TL.tl b) : a = b := by
  obtain ⟨a⟩ := a
  obtain ⟨b⟩ := b
  have : a = b := Array.ext' h
  rw [this]
theorem runs_many {H : Hp} {t u : Addr} {r s : Run3} (e : H t = some (.tup (runV r))) (f : H u = some (.tup (runV s))) : ∀ n : Nat, RunsAt H (List.replicate n [t, u]).flatten (List.replicate n [r, s]).flatten
  | 0 => .nil
  | n + 1 => by
    rw [List.replicate_succ, List.replicate_succ, List.flatten_cons, List.flatten_cons]
    exact RunsAt.cons e (RunsAt.cons f (runs_many e f n))
end MG

namespace K60
open PySem PySem.Spec PyProof.Rows L2 MG
abbrev sLaw : Stmt := topS 30
abbrev nLaw : List Str := ["_law_script", "_law_k", "_law_box_here", "_law_turn", "_law_row", "_law_plan_here", "_law_many", "_law_text"]
theorem scLaw : FnScope ["_law_script", "_law_k", "_law_box_here", "_law_turn", "_law_row", "_law_plan_here", "_law_many", "_law_text"] ["_law_script"] (defScope sLaw) := ⟨rfl, rfl, rfl, by decide +kernel, rfl, by decide +kernel, by decide +kernel⟩
theorem seqS {K : PySem.W.Frag} {H H' : Hp} {a : Addr} {xs : List V} (e : Same H H') (h : SqL K H a xs) : SqL K H' a xs := by
  rcases h with (h | ⟨o, h⟩) | h
  · exact .inl (.inl (e a _ h))
  · exact .inl (.inr ⟨o, e a _ h⟩)
  · exact .inr h
theorem box_sm {H H' : Hp} {b : Addr} {n : Nat} (s : Same H H') (B : Box H b n) : Box H' b n := by
  obtain ⟨o, m, c, e, h⟩ := id B
  exact B.at (by rw [s _ _ e, e])
theorem join_pairs (a b : List Nat) : ∀ n : Nat, TL.joinL [32] (List.replicate (n + 1) (a ++ 32 :: b)) = TL.joinL [32] (List.replicate (n + 1) [a, b]).flatten
  | 0 => rfl
  | n + 1 => by
    have ih := join_pairs a b n
    rw [List.replicate_succ, List.replicate_succ, TL.joinL, ← List.replicate_succ, ih, List.replicate_succ (n := n + 1), List.flatten_cons]
    rw [List.replicate_succ, List.flatten_cons]
    show (a ++ 32 :: b) ++ ([32] ++ TL.joinL [32] (a :: b :: (List.replicate n [a, b]).flatten)) = TL.joinL [32] (a :: b :: a :: b :: (List.replicate n [a, b]).flatten)
    show _ = a ++ ([32] ++ (b ++ ([32] ++ TL.joinL [32] (a :: b :: (List.replicate n [a, b]).flatten))))
    rw [List.append_assoc]
    rfl
def manyR (n : Nat) : List Run3 := (List.replicate n [((0, 11, 1) : Run3), (11, 0, 2)]).flatten
theorem many_len (n : Nat) : (manyR n).length = n * 2 := by unfold manyR; rw [lm_len_rep_flat]; rfl
theorem many_good (n : Nat) : ∀ r ∈ manyR n, TX.GoodRun r := fun r hr => by
  obtain ⟨l, hl, h⟩ := List.mem_flatten.mp hr
  rw [List.eq_of_mem_replicate hl] at h
  simp only [List.mem_cons, List.not_mem_nil, or_false] at h
  rcases h with rfl | rfl
  · exact ⟨by decide, by decide, by decide, by decide⟩
  · exact ⟨by decide, by decide, by decide, by decide⟩
theorem many_text (n : Nat) : TL.tl (Txt.join " " (List.replicate (n + 1) ("0>11*1 11>0*2" : Str))) = TX.planL (manyR (n + 1)) := by
  have e : TL.tl ("0>11*1 11>0*2" : Str) = TX.runL (0, 11, 1) ++ 32 :: TX.runL (11, 0, 2) := by decide +kernel
  have ne : manyR (n + 1) ≠ [] := fun z => by
    have := many_len (n + 1)
    rw [z] at this
    exact absurd this (by simp)
  rw [(TX.join_tok (y := " ") (n := 13) eq_blank (by decide) (parts := List.replicate (n + 1) ("0>11*1 11>0*2" : Str)) fun p hp => by rw [List.eq_of_mem_replicate hp]; exact ⟨by decide, by decide +kernel⟩).2, List.map_replicate, e, join_pairs]
  unfold TX.planL
  rw [if_neg ne]
  unfold manyR
  rw [List.map_flatten, List.map_replicate]
  rfl
section
variable {P : Program} {w : World} {K : PySem.W.Frag} {mg : Str → Option Value} {base : Heap}
def spRrC : Sp := fun vs H Q _ => ∃ (z : Str) (ns : List Nat), vs = [.str z] ∧ z.length ≤ 1000000 ∧ TX.rowT (TL.tl z) = some ns ∧ ∀ p H', Same H H' → H' p = some (.tup (intsV ns)) → Q (.ref p) H'
def spRpC : Sp := fun vs H Q _ => ∃ (z : Str) (rs : List Run3), vs = [.str z] ∧ TX.Tok z 1000000 ∧ TX.planT (TL.tl z) = some rs ∧ ∀ p H' (ts : List Addr), Same H H' → H' p = some (.tup (ts.map V.ref)) → RunsAt H' ts rs → Q (.ref p) H'
theorem rr_c {NT : Addr} {k : Nat} {f : Addr} {fd : FuncData} (F : FnOk P w K mg base (L2.CX P w) k f fd ["text"] (spRr NT)) : FnOk P w K mg base CX0 k f fd ["text"] spRrC := by
  refine calm_ok F fun vs H Q E h => ?_
  obtain ⟨z, ns, rfl, lz, e, q⟩ := h
  refine ⟨.str z, .str z, rfl, .str z, fun y ey => ?_, fun z => nomatch z⟩
  cases ey
  exact ⟨lz, fun ns' e' p H' s _ ep => (by rw [e] at e'; cases e'; exact q p H' s ep), fun e' => (by rw [e] at e'; cases e')⟩
theorem rp_c {NT : Addr} {k : Nat} {f : Addr} {fd : FuncData} (F : FnOk P w K mg base (L2.CX P w) k f fd ["text"] (spRp NT)) : FnOk P w K mg base CX0 k f fd ["text"] spRpC := by
  refine calm_ok F fun vs H Q E h => ?_
  obtain ⟨z, rs, rfl, lz, e, q⟩ := h
  refine ⟨.str z, .str z, rfl, .str z, fun y ey => ?_, fun z => nomatch z⟩
  cases ey
  exact ⟨lz.1, lz.2, fun rs' e' p H' ts s ep hr => (by rw [e] at e'; cases e'; exact q p H' ts s ep hr), fun e' => (by rw [e] at e'; cases e')⟩
def spLaw (K : PySem.W.Frag) : Sp := fun vs H Q _ => ∃ (a : Addr) (ns : List Int), vs = [.ref a] ∧ SqL K H a (ns.map V.int) ∧ ns.length ≤ 63 ∧ ∀ H', Q (.bl true) H'
theorem ok_law {NT f fX fT fAr fPl fRt fPt fSr fSp fRr fRp : Addr} {fd fdX fdT fdAr fdPl fdRt fdPt fdSr fdSp fdRr fdRp : FuncData} {k : Nat} (sys : SysD base) (F : Fun K "law" "law" sLaw f fd)
    (FX : Fun K "_law_box" "_law_box" sBox fX fdX) (bX : Binds K fdX ["_law_script", "_law_k"] []) (gX : mg "_law_box" = some (.ref fX)) (GX : FnOk P w K mg base CX0 (k + 1) fX fdX ["_law_script", "_law_k"] (spBox K))
    (FT : Fun K "_law_take" "_law_take" sTake fT fdT) (bT : Binds K fdT ["_law_box_here", "_law_many"] []) (gT : mg "_law_take" = some (.ref fT))
    (FAr : Fun K "_law_any_row" "_law_any_row" sAr fAr fdAr) (bAr : Binds K fdAr ["_law_box_here"] []) (gAr : mg "_law_any_row" = some (.ref fAr)) (GAr : FnOk P w K mg base CX0 (k + 4) fAr fdAr ["_law_box_here"] spAr)
    (FPl : Fun K "_law_plan" "_law_plan" sPln fPl fdPl) (bPl : Binds K fdPl ["_law_box_here"] []) (gPl : mg "_law_plan" = some (.ref fPl)) (GPl : FnOk P w K mg base CX0 (k + 4) fPl fdPl ["_law_box_here"] spPln)
    (FRt : Fun K "_law_row_text" "_law_row_text" sRt fRt fdRt) (bRt : Binds K fdRt ["_law_row"] []) (gRt : mg "_law_row_text" = some (.ref fRt)) (GRt : FnOk P w K mg base CX0 (k + 1) fRt fdRt ["_law_row"] spRt)
    (FPt : Fun K "_law_plan_text" "_law_plan_text" sPtx fPt fdPt) (bPt : Binds K fdPt ["_law_plan_here"] []) (gPt : mg "_law_plan_text" = some (.ref fPt)) (GPt : FnOk P w K mg base CX0 (k + 1) fPt fdPt ["_law_plan_here"] spPtx)
    (FSr : Fun K "show_row" "show_row" sSr fSr fdSr) (bSr : Binds K fdSr ["row"] []) (gSr : mg "show_row" = some (.ref fSr)) (GSr : FnOk P w K mg base CX0 (k + 1) fSr fdSr ["row"] spSr)
    (FSp : Fun K "show_plan" "show_plan" sSp fSp fdSp) (bSp : Binds K fdSp ["plan"] []) (gSp : mg "show_plan" = some (.ref fSp)) (GSp : FnOk P w K mg base CX0 (k + 2) fSp fdSp ["plan"] spSp)
    (FRr : Fun K "read_row" "read_row" sRr fRr fdRr) (bRr : Binds K fdRr ["text"] []) (gRr : mg "read_row" = some (.ref fRr)) (GRr : FnOk P w K mg base (L2.CX P w) (k + 4) fRr fdRr ["text"] (spRr NT))
    (FRp : Fun K "read_plan" "read_plan" sRp fRp fdRp) (bRp : Binds K fdRp ["text"] []) (gRp : mg "read_plan" = some (.ref fRp)) (GRp : FnOk P w K mg base (L2.CX P w) (k + 5) fRp fdRp ["text"] (spRp NT))
    (m_len : mg "len" = none) (m_min : mg "min" = none) (m_max : mg "max" = none) (m_range : mg "range" = none) (m_repr : mg "repr" = none) : FnG P w K mg base (k + 6) f fd ["_law_script"] (spLaw K) := by
  have GT : FnOk P w K mg base CX0 (k + 1) fT fdT ["_law_box_here", "_law_many"] spTake := ok_take FT
  have GRr := rr_c GRr
  have GRp := rp_c GRp
  refine okG F scLaw (fun vs H Q E h => ?_) (fun cdv A outer s H vs Q E gd hr h => ?_)
  · obtain ⟨a, ns, rfl, _⟩ := h
    rfl
  · obtain ⟨a, ns, rfl, hS, hlen, q⟩ := h
    have hr5 := hr
    have hr4 := hr.mono (show k + 4 ≤ k + 5 by omega)
    have hr2 := hr.mono (show k + 2 ≤ k + 5 by omega)
    have hr1 := hr.mono (show k + 1 ≤ k + 5 by omega)
    have cr : ∀ {X : Cx}, X = (cxOf CX0 P w K mg base nLaw "law" (defScope sLaw) f cdv A outer s H E).nox → CallR X (.builtin "repr") rRepr := by
      rintro X rfl
      exact call_repr gd (by have := hr.un; show (A.deeper _).units + 100 < cLine; omega) sys
    have R := cr rfl
    refine ⟨_, pss_cons (ps_for PassesOwn.never rfl (pi_range1 (by rfl) m_range (pa_cons (pe_callB (call_max2 rfl) (by rfl) m_max (by decide +kernel) (pa_cons pe_int (pa_cons (pe_callB (call_min2 rfl) (by rfl) m_min (by decide +kernel) (pa_cons pe_int (pa_cons (pe_callB call_len_seq (by rfl) m_len PySem.boot_len (pa_cons (pv 0) pa_nil)) pa_nil))) pa_nil))) pa_nil)) (pg_name (i := 1) scLaw.nd rfl (.inl rfl)) (pss_cons (ps_set (i := 2) scLaw.nd rfl (.inl rfl) (pe_call GX hr1 (by rfl) gX FX.kp bX .nil pass0 (pa_cons (pv 0) (pa_cons (pv 1) pa_nil))))
      (pss_cons (ps_for PassesOwn.never rfl (pi_range1 (by rfl) m_range (pa_cons pe_int pa_nil)) (pg_name (i := 3) scLaw.nd rfl (.inl rfl)) (pss_cons (ps_par (i := 4) (j := 5) rfl scLaw.nd rfl rfl (by decide) rfl rfl (pa_cons (pe_call GAr hr4 (by rfl) gAr FAr.kp bAr .nil pass0 (pa_cons (pv 2) pa_nil)) (pa_cons (pe_call GPl hr4 (by rfl) gPl FPl.kp bPl .nil pass0 (pa_cons (pv 2) pa_nil)) pa_nil)) (by rfl))
      (pss_cons (ps_if (PW.pt (pw_or (pt_cmpR op_ne (pe_call GSr hr1 (by rfl) gSr FSr.kp bSr .nil pass0 (pa_cons (pv 4) pa_nil)) (pe_call GRt hr1 (by rfl) gRt FRt.kp bRt .nil pass0 (pa_cons (pv 4) pa_nil)) (nomark _)) (pw_or1 (pt_cmpR op_ne (pe_callB R (by rfl) m_repr (by decide +kernel) (pa_cons (pe_call GRr hr4 (by rfl) gRr FRr.kp bRr .nil pass0 (pa_cons (pe_call GRt hr1 (by rfl) gRt FRt.kp bRt .nil pass0 (pa_cons (pv 4) pa_nil)) pa_nil)) pa_nil)) (pe_callB R (by rfl) m_repr (by decide +kernel) (pa_cons (pv 4) pa_nil)) (nomark _))))) (pss_one (ps_ret pe_bl)) pss_nil)
      (pss_one (ps_if (PW.pt (pw_or (pt_cmpR op_ne (pe_call GSp hr2 (by rfl) gSp FSp.kp bSp .nil pass0 (pa_cons (pv 5) pa_nil)) (pe_call GPt hr1 (by rfl) gPt FPt.kp bPt .nil pass0 (pa_cons (pv 5) pa_nil)) (nomark _)) (pw_or1 (pt_cmpR op_ne (pe_callB R (by rfl) m_repr (by decide +kernel) (pa_cons (pe_call GRp hr5 (by rfl) gRp FRp.kp bRp .nil pass0 (pa_cons (pe_call GPt hr1 (by rfl) gPt FPt.kp bPt .nil pass0 (pa_cons (pv 5) pa_nil)) pa_nil)) pa_nil)) (pe_callB R (by rfl) m_repr (by decide +kernel) (pa_cons (pv 5) pa_nil)) (nomark _))))) (pss_one (ps_ret pe_bl)) pss_nil)))))
      (pss_cons (ps_set (i := 6) scLaw.nd rfl (.inl rfl) (pe_op op_add pe_int (pe_call GT hr1 (by rfl) gT FT.kp bT .nil pass0 (pa_cons (pv 2) (pa_cons pe_int pa_nil)))))
      (pss_cons (ps_par (i := 5) (j := 7) rfl scLaw.nd rfl rfl (by decide) rfl rfl (pa_cons (pe_op op_repM (pe_tup (pa_cons (pe_tup (pa_cons pe_int (pa_cons pe_int (pa_cons pe_int pa_nil)))) (pa_cons (pe_tup (pa_cons pe_int (pa_cons pe_int (pa_cons pe_int pa_nil)))) pa_nil))) (pv 6)) (pa_cons (pe_join pe_str (pe_op op_rep (pe_lst (pa_cons pe_str pa_nil)) (pv 6))) pa_nil)) (by rfl))
      (pss_one (ps_if (PW.pt (pw_or (pt_cmpR op_ne (pe_call GSp hr2 (by rfl) gSp FSp.kp bSp .nil pass0 (pa_cons (pv 5) pa_nil)) (pv 7) (nomark _)) (pw_or1 (pt_cmpR (op_neD hr.units) (pe_call GRp hr5 (by rfl) gRp FRp.kp bRp .nil pass0 (pa_cons (pv 7) pa_nil)) (pv 5) (nomark _))))) (pss_one (ps_ret pe_bl)) pss_nil)))))))
      (pss_one (ps_ret pe_bl)), ?_⟩
    refine ⟨.ref a, rfl, a, _, rfl, .inl hS, 3, _, rfl, 1, _, rfl, _, rfl, ?_, ?_, ?_⟩
    · rw [List.length_map]; repeat' split <;> omega
    · rw [List.length_map]; repeat' split <;> omega
    refine for_range (lo := 0) (n := _) (fun m σ G => ∃ y1 y2 y3 y4 y5 y6 y7, σ = [some (.ref a), y1, y2, y3, y4, y5, y6, y7] ∧ Same H G) ⟨none, none, none, none, none, none, none, rfl, .refl H⟩ ?_ ?_
    · rintro m σ G0 hm ⟨y1, y2, y3, y4, y5, y6, y7, rfl, s0⟩
      have hm4 : m < 5 := by
        refine Nat.lt_of_lt_of_le hm ?_
        rw [List.length_map]; repeat' split <;> omega
      refine ⟨_, rfl, _, rfl, a, ns, 0 + (m : Int), rfl, seqS s0 hS, by omega, by omega, fun b H1 nb s1 hB k1 => ?_⟩
      have off : ∀ {G : Hp}, SX b H1 G → Same H G := fun x c o hc => x c o (ne_of_none (s0 _ _ hc) nb) (s1 _ _ (s0 _ _ hc))
      have x0 : SX b H1 H1 := .refl b H1
      refine ⟨_, rfl, by decide, by decide, ?_⟩
      refine for_range (lo := 0) (n := 6) (fun m' σ G => ∃ y3 y4 y5 y6 y7, σ = [some (.ref a), some (.int (0 + (m : Int))), some (.ref b), y3, y4, y5, y6, y7] ∧ SX b H1 G ∧ Box G b (200 * m')) ⟨y3, y4, y5, y6, y7, rfl, x0, hB⟩ ?_ ?_
      · clear y1 y2 y3 y4 y5 y6 y7
        rintro m' σ G hm' ⟨y3, y4, y5, y6, y7, rfl, xG, BG⟩
        refine ⟨_, rfl, b, _, rfl, BG, by omega, fun p1 G1 ns l s0 s9 x1 B1 e1 => ⟨_, rfl, b, _, rfl, B1, by omega, fun p2 G2 ts rs lr gr x2 B2 e2 hR => ?_⟩⟩
        have e1' := x2 p1 _ (box_tup B1 e1) e1
        have lt1 : ∀ n ∈ ns, n < 10 ^ 30 := fun n hn => Nat.lt_of_le_of_lt (TX.mem_sumN hn) s9
        have rt : TX.rowT (TX.rowL ns) = some ns := TX.row_w ⟨l, s0, s9⟩
        have sh := row_sh rt
        have d60 : (rowR (some ns)).depth ≤ 60 := by have := sh.2.1; omega
        have dsz : (rowR (some ns)).shown.length ≤ sizeLine := by have := sh.2.2; rw [sizeLine_eq]; omega
        have rdd : ∀ {G : Hp} {p : Addr}, G p = some (.tup (intsV ns)) → Dd G (.ref p) (rowR (some ns)) := fun e => .tup e (by rw [intsV_eq]; exact ddIntsG _)
        -- the row
        refine ⟨_, _, rfl, ?_⟩
        refine ⟨_, rfl, p1, ns, rfl, e1', by omega, lt1, fun z1 G3 s3 t1 _ => ⟨_, rfl, p1, ns, rfl, s3 _ _ e1', by omega, lt1, fun z2 G4 s4 t2 _ => ?_⟩⟩
        obtain rfl := tl_inj (t1.trans t2.symm)
        refine ⟨rfl, _, rfl, iteNS rfl ?_⟩
        refine ⟨_, rfl, p1, ns, rfl, (s3.trans s4) _ _ e1', by omega, lt1, fun z3 G5 s5 t3 k3 => ⟨z3, ns, rfl, by have := k3.1; omega, by rw [t3]; exact rt, fun p3 G6 s6 e6 => ?_⟩⟩
        have s36 := (s3.trans s4).trans (s5.trans s6)
        refine ⟨_, _, rfl, rdd e6, sh.1, d60, dsz, ?_⟩
        refine ⟨_, rfl, _, _, rfl, rdd (s36 _ _ e1'), sh.1, d60, dsz, ⟨rfl, _, rfl, iteNS rfl ?_⟩⟩
        -- the plan
        have e2' := s36 _ _ e2
        have hR' : RunsAt G6 ts rs := hR.mono fun a xs e => s36 a _ e
        have pt : TX.planT (TX.planL rs) = some rs := TX.plan_w gr
        refine ⟨_, rfl, p2, ts, rs, rfl, e2', hR', by omega, gr, fun z4 G7 s7 t4 k4 => ⟨_, rfl, p2, ts, rs, rfl, s7 _ _ e2', hR'.mono fun a xs e => s7 a _ e, by omega, gr, fun z5 G8 s8 t5 _ => ?_⟩⟩
        obtain rfl := tl_inj (t4.trans t5.symm)
        refine ⟨rfl, _, rfl, iteNS rfl ?_⟩
        have s78 := s7.trans s8
        have psh : Sh 2 (8001 * 914 + 3) (planR (some rs)) := plan_sh (l := TL.tl z4) (by rw [t4]; exact pt) (by rw [← TL.len_tl]; have := k4.1; omega)
        have p60 : (planR (some rs)).depth ≤ 60 := by have := psh.2.1; omega
        have psz : (planR (some rs)).shown.length ≤ sizeLine := by have := psh.2.2; rw [sizeLine_eq]; omega
        refine ⟨_, rfl, p2, ts, rs, rfl, s78 _ _ e2', hR'.mono fun a xs e => s78 a _ e, by omega, gr, fun z6 G9 s9' t6 k6 => ⟨z6, rs, rfl, k6.le (by omega), by rw [t6]; exact pt, fun p4 G10 ts4 s10 e10 hR10 => ?_⟩⟩
        have s710 := s78.trans (s9'.trans s10)
        refine ⟨_, planR (some rs), rfl, .tup e10 (runs_dd hR10), psh.1, p60, psz, ?_⟩
        refine ⟨_, rfl, _, planR (some rs), rfl, .tup (s710 _ _ e2') (runs_dd (hR'.mono fun a xs e => s710 a _ e)), psh.1, p60, psz, ⟨rfl, _, rfl, iteNS rfl ?_⟩⟩
        have sA := s36.trans s710
        exact ⟨_, _, _, _, _, rfl, ((xG.trans x1).trans x2).trans (.of_same sA), (box_sm sA B2).le (by omega)⟩
      rintro σ G ⟨y3, y4, y5, y6, y7, rfl, xG, BG⟩
      clear x0
      refine ⟨_, rfl, b, 1000, _, rfl, BG, by omega, by decide, by decide, fun r G1 r0 r1 B1 k2 => ⟨5001, r, rfl, rfl, ?_⟩⟩
      obtain ⟨n, rfl⟩ := Int.eq_ofNat_of_zero_le r0
      have eN : (5001 + (n : Int)).toNat = 5000 + n + 1 := by omega
      have x1 := xG.trans (.of_eq k2)
      refine ⟨by show 3 ≤ sizeLine; decide, fun t1 n1 => ⟨by show 3 ≤ sizeLine; decide, fun t2 n2 => ⟨by show 2 ≤ sizeLine; decide, fun t3 n3 => ?_⟩⟩⟩
      have e1 := same_upd (o := .tup [.ref t1, .ref t2]) n3 _ _ (same_upd (o := .tup [V.int 11, .int 0, .int 2]) n2 _ _ (upd_same (H := G1) (a := t1) (o := .tup [V.int 0, .int 11, .int 1])))
      have e2 := same_upd (o := .tup [.ref t1, .ref t2]) n3 _ _ (upd_same (H := upd G1 t1 (.tup [V.int 0, .int 11, .int 1])) (a := t2) (o := .tup [V.int 11, .int 0, .int 2]))
      have s2 : Same G1 _ := (same_upd (o := .tup [V.int 0, .int 11, .int 1]) n1).trans ((same_upd (o := .tup [V.int 11, .int 0, .int 2]) n2).trans (same_upd (o := .tup [.ref t1, .ref t2]) n3))
      refine ⟨_, rfl, t3, 5001 + (n : Int), [.ref t1, .ref t2], rfl, rfl, SqT.of upd_same, List.cons_ne_nil _ _, by omega, by omega, by show 2 ≤ 10; decide, fun p np => ?_⟩
      rw [eN]
      have s3 := s2.trans (same_upd (o := .tup (List.replicate (5000 + n + 1) [V.ref t1, V.ref t2]).flatten) np)
      have e1 := same_upd (o := .tup (List.replicate (5000 + n + 1) [V.ref t1, V.ref t2]).flatten) np _ _ e1
      have e2 := same_upd (o := .tup (List.replicate (5000 + n + 1) [V.ref t1, V.ref t2]).flatten) np _ _ e2
      have ep : upd (upd (upd (upd G1 t1 (.tup [V.int 0, .int 11, .int 1])) t2 (.tup [V.int 11, .int 0, .int 2])) t3 (.tup [.ref t1, .ref t2])) p (.tup (List.replicate (5000 + n + 1) [V.ref t1, V.ref t2]).flatten) p = some (.tup ((List.replicate (5000 + n + 1) [t1, t2]).flatten.map V.ref)) := by
        rw [upd_same, List.map_flatten, List.map_replicate]; rfl
      generalize upd (upd (upd (upd G1 t1 (HO.tup [V.int 0, .int 11, .int 1])) t2 (HO.tup [V.int 11, .int 0, .int 2])) t3 (HO.tup [V.ref t1, V.ref t2])) p (HO.tup (List.replicate (5000 + n + 1) [V.ref t1, V.ref t2]).flatten) = G2 at s3 e1 e2 ep ⊢
      have hR : RunsAt G2 _ (manyR (5000 + n + 1)) := runs_many (r := (0, 11, 1)) (s := (11, 0, 2)) e1 e2 (5000 + n + 1)
      clear n1 n2 n3 np e1 e2 s2
      have b6 : n ≤ 1000 := by omega
      refine ⟨⟨_, rfl⟩, by show 1 ≤ sizeLine; decide, fun l nl => ⟨_, rfl, l, 5001 + (n : Int), _, rfl, rfl, upd_same, by omega, by omega, by rw [eN, sizeLine_eq, List.length_singleton]; omega, fun l2 nl2 => ?_⟩⟩
      rw [eN]
      have x4 := (x1.trans (.of_same s3)).trans ((SX.of_same (same_upd (o := .lst [V.str "0>11*1 11>0*2"]) nl)).trans (.of_same (same_upd (o := .lst (List.replicate (5000 + n + 1) [V.str "0>11*1 11>0*2"]).flatten) nl2)))
      have s4 := (same_upd (o := .lst [V.str "0>11*1 11>0*2"]) nl).trans (same_upd (o := .lst (List.replicate (5000 + n + 1) [V.str "0>11*1 11>0*2"]).flatten) nl2)
      have el : upd (upd G2 l (.lst [V.str "0>11*1 11>0*2"])) l2 (.lst (List.replicate (5000 + n + 1) [V.str "0>11*1 11>0*2"]).flatten) l2 = some (.lst ((List.replicate (5000 + n + 1) ("0>11*1 11>0*2" : Str)).map V.str)) := by
        rw [upd_same, List.map_replicate]
        congr 2
        induction (5000 + n + 1) with
        | zero => rfl
        | succ m ih => rw [List.replicate_succ, List.flatten_cons, ih, List.replicate_succ]; rfl
      generalize upd (upd G2 l (HO.lst [V.str "0>11*1 11>0*2"])) l2 (HO.lst (List.replicate (5000 + n + 1) [V.str "0>11*1 11>0*2"]).flatten) = G3 at x4 s4 el ⊢
      have toks : ∀ p ∈ List.replicate (5000 + n + 1) ("0>11*1 11>0*2" : Str), TX.Tok p 13 := fun p hp => by rw [List.eq_of_mem_replicate hp]; exact ⟨by decide, by decide +kernel⟩
      have h1 := sum_tok _ toks
      rw [List.length_replicate] at h1
      have tT := many_text (5000 + n)
      have kT := (TX.join_tok (y := " ") (n := 13) eq_blank (by decide) toks).1
      rw [List.length_replicate] at kT
      refine ⟨" ", l2, _, rfl, rfl, .inl (SqL.of el), by rw [List.length_replicate, show (" " : Str).length = 1 by decide +kernel]; omega, ?_⟩
      generalize Txt.join " " (List.replicate (5000 + n + 1) ("0>11*1 11>0*2" : Str)) = T at tT kT ⊢
      have gr := many_good (5000 + n + 1)
      have ml := many_len (5000 + n + 1)
      have pt : TX.planT (TX.planL (manyR (5000 + n + 1))) = some (manyR (5000 + n + 1)) := TX.plan_w gr
      generalize manyR (5000 + n + 1) = rs at hR tT gr ml pt
      generalize (List.replicate (5000 + n + 1) [t1, t2]).flatten = ts at ep hR
      refine ⟨_, _, rfl, ?_⟩
      refine ⟨_, rfl, p, ts, rs, rfl, s4 _ _ ep, hR.mono fun a xs e => s4 a _ e, by omega, gr, fun z G4 s5 t4 _ => ⟨_, rfl, ?_⟩⟩
      obtain rfl := tl_inj (t4.trans tT.symm)
      refine ⟨rfl, _, rfl, iteNS rfl ?_⟩
      have s6 := s4.trans s5
      refine ⟨_, rfl, z, rs, rfl, kT.le (by omega), by rw [t4]; exact pt, fun p5 G5 ts5 s7 e7 hR7 => ?_⟩
      have s67 := s6.trans s7
      refine ⟨_, rfl, .tuple ((rs.map some).map oDt), .tuple ((rs.map some).map oDt), .tup (SqT.of e7) (runs_dp hR7), .tup (SqT.of (s67 _ _ ep)) (runs_dp (hR.mono fun a xs e => s67 a _ e)), runs_shaped rs, runs_shaped rs, _, rfl, ?_⟩
      rw [eqv_runs]
      refine iteF ⟨_, _, _, _, _, _, _, rfl, ?_⟩
      exact off (x4.trans ((SX.of_same s5).trans (.of_same s7)))
    · rintro σ G ⟨_, _, _, _, _, _, _, rfl, _⟩
      exact q G
end
end K60

namespace K60
open PySem PySem.Spec PyProof.Rows L2 MG LamX
theorem all_mk {l : PySem.W.OpenLaw} {w : World} {K : PySem.W.Frag} {h : Heap} {mg : Str → Option Value} {fa : Addr} (X : K.In h) (G : h.Ns mainGlobals mg) (hfa : mg "law" = some (.ref fa))
    {NT : Addr}
    {fBox : Addr} {odBox anBox : Option Addr} {slBox : Array (Option Value)} {ocBox kVBox dcBox pmBox cdBox ctBox : Value}
    (aBox : PySem.W.nsIn K mainGlobals "_law_box" = some (some (.ref fBox))) (lBox : K.lookup fBox = some ⟨ocBox, odBox, .func (PySem.W.fnOf "_law_box" "_law_box" (defArgs sBox) (defBody sBox) (defScope sBox) .none kVBox dcBox pmBox anBox cdBox ctBox), slBox⟩) (cBox : PySem.W.codeIn K cdBox "_law_box" = true) (kBox : PySem.W.keepIn K (.ref fBox) = true)
    {fTake : Addr} {odTake anTake : Option Addr} {slTake : Array (Option Value)} {ocTake kVTake dcTake pmTake cdTake ctTake : Value}
    (aTake : PySem.W.nsIn K mainGlobals "_law_take" = some (some (.ref fTake))) (lTake : K.lookup fTake = some ⟨ocTake, odTake, .func (PySem.W.fnOf "_law_take" "_law_take" (defArgs sTake) (defBody sTake) (defScope sTake) .none kVTake dcTake pmTake anTake cdTake ctTake), slTake⟩) (cTake : PySem.W.codeIn K cdTake "_law_take" = true) (kTake : PySem.W.keepIn K (.ref fTake) = true)
    {fOf : Addr} {odOf anOf : Option Addr} {slOf : Array (Option Value)} {ocOf kVOf dcOf pmOf cdOf ctOf : Value}
    (aOf : PySem.W.nsIn K mainGlobals "_law_of" = some (some (.ref fOf))) (lOf : K.lookup fOf = some ⟨ocOf, odOf, .func (PySem.W.fnOf "_law_of" "_law_of" (defArgs sOf) (defBody sOf) (defScope sOf) .none kVOf dcOf pmOf anOf cdOf ctOf), slOf⟩) (cOf : PySem.W.codeIn K cdOf "_law_of" = true) (kOf : PySem.W.keepIn K (.ref fOf) = true)
    {fNum : Addr} {odNum anNum : Option Addr} {slNum : Array (Option Value)} {ocNum kVNum dcNum pmNum cdNum ctNum : Value}
    (aNum : PySem.W.nsIn K mainGlobals "_law_number" = some (some (.ref fNum))) (lNum : K.lookup fNum = some ⟨ocNum, odNum, .func (PySem.W.fnOf "_law_number" "_law_number" (defArgs sNum) (defBody sNum) (defScope sNum) .none kVNum dcNum pmNum anNum cdNum ctNum), slNum⟩) (cNum : PySem.W.codeIn K cdNum "_law_number" = true) (kNum : PySem.W.keepIn K (.ref fNum) = true)
    {fAr : Addr} {odAr anAr : Option Addr} {slAr : Array (Option Value)} {ocAr kVAr dcAr pmAr cdAr ctAr : Value}
    (aAr : PySem.W.nsIn K mainGlobals "_law_any_row" = some (some (.ref fAr))) (lAr : K.lookup fAr = some ⟨ocAr, odAr, .func (PySem.W.fnOf "_law_any_row" "_law_any_row" (defArgs sAr) (defBody sAr) (defScope sAr) .none kVAr dcAr pmAr anAr cdAr ctAr), slAr⟩) (cAr : PySem.W.codeIn K cdAr "_law_any_row" = true) (kAr : PySem.W.keepIn K (.ref fAr) = true)
    {fPln : Addr} {odPln anPln : Option Addr} {slPln : Array (Option Value)} {ocPln kVPln dcPln pmPln cdPln ctPln : Value}
    (aPln : PySem.W.nsIn K mainGlobals "_law_plan" = some (some (.ref fPln))) (lPln : K.lookup fPln = some ⟨ocPln, odPln, .func (PySem.W.fnOf "_law_plan" "_law_plan" (defArgs sPln) (defBody sPln) (defScope sPln) .none kVPln dcPln pmPln anPln cdPln ctPln), slPln⟩) (cPln : PySem.W.codeIn K cdPln "_law_plan" = true) (kPln : PySem.W.keepIn K (.ref fPln) = true)
    {fRt : Addr} {odRt anRt : Option Addr} {slRt : Array (Option Value)} {ocRt kVRt dcRt pmRt cdRt ctRt : Value}
    (aRt : PySem.W.nsIn K mainGlobals "_law_row_text" = some (some (.ref fRt))) (lRt : K.lookup fRt = some ⟨ocRt, odRt, .func (PySem.W.fnOf "_law_row_text" "_law_row_text" (defArgs sRt) (defBody sRt) (defScope sRt) .none kVRt dcRt pmRt anRt cdRt ctRt), slRt⟩) (cRt : PySem.W.codeIn K cdRt "_law_row_text" = true) (kRt : PySem.W.keepIn K (.ref fRt) = true)
    {fPtx : Addr} {odPtx anPtx : Option Addr} {slPtx : Array (Option Value)} {ocPtx kVPtx dcPtx pmPtx cdPtx ctPtx : Value}
    (aPtx : PySem.W.nsIn K mainGlobals "_law_plan_text" = some (some (.ref fPtx))) (lPtx : K.lookup fPtx = some ⟨ocPtx, odPtx, .func (PySem.W.fnOf "_law_plan_text" "_law_plan_text" (defArgs sPtx) (defBody sPtx) (defScope sPtx) .none kVPtx dcPtx pmPtx anPtx cdPtx ctPtx), slPtx⟩) (cPtx : PySem.W.codeIn K cdPtx "_law_plan_text" = true) (kPtx : PySem.W.keepIn K (.ref fPtx) = true)
    {fSr : Addr} {odSr anSr : Option Addr} {slSr : Array (Option Value)} {ocSr kVSr dcSr pmSr cdSr ctSr : Value}
    (aSr : PySem.W.nsIn K mainGlobals "show_row" = some (some (.ref fSr))) (lSr : K.lookup fSr = some ⟨ocSr, odSr, .func (PySem.W.fnOf "show_row" "show_row" (defArgs sSr) (defBody sSr) (defScope sSr) .none kVSr dcSr pmSr anSr cdSr ctSr), slSr⟩) (cSr : PySem.W.codeIn K cdSr "show_row" = true) (kSr : PySem.W.keepIn K (.ref fSr) = true)
    {fSu : Addr} {odSu anSu : Option Addr} {slSu : Array (Option Value)} {ocSu kVSu dcSu pmSu cdSu ctSu : Value}
    (aSu : PySem.W.nsIn K mainGlobals "show_run" = some (some (.ref fSu))) (lSu : K.lookup fSu = some ⟨ocSu, odSu, .func (PySem.W.fnOf "show_run" "show_run" (defArgs sSu) (defBody sSu) (defScope sSu) .none kVSu dcSu pmSu anSu cdSu ctSu), slSu⟩) (cSu : PySem.W.codeIn K cdSu "show_run" = true) (kSu : PySem.W.keepIn K (.ref fSu) = true)
    {fSp : Addr} {odSp anSp : Option Addr} {slSp : Array (Option Value)} {ocSp kVSp dcSp pmSp cdSp ctSp : Value}
    (aSp : PySem.W.nsIn K mainGlobals "show_plan" = some (some (.ref fSp))) (lSp : K.lookup fSp = some ⟨ocSp, odSp, .func (PySem.W.fnOf "show_plan" "show_plan" (defArgs sSp) (defBody sSp) (defScope sSp) .none kVSp dcSp pmSp anSp cdSp ctSp), slSp⟩) (cSp : PySem.W.codeIn K cdSp "show_plan" = true) (kSp : PySem.W.keepIn K (.ref fSp) = true)
    {fWd : Addr} {odWd anWd : Option Addr} {slWd : Array (Option Value)} {ocWd kVWd dcWd pmWd cdWd ctWd : Value}
    (aWd : PySem.W.nsIn K mainGlobals "words_of" = some (some (.ref fWd))) (lWd : K.lookup fWd = some ⟨ocWd, odWd, .func (PySem.W.fnOf "words_of" "words_of" (defArgs sWd) (defBody sWd) (defScope sWd) .none kVWd dcWd pmWd anWd cdWd ctWd), slWd⟩) (cWd : PySem.W.codeIn K cdWd "words_of" = true) (kWd : PySem.W.keepIn K (.ref fWd) = true)
    {fOs : Addr} {odOs anOs : Option Addr} {slOs : Array (Option Value)} {ocOs kVOs dcOs pmOs cdOs ctOs : Value}
    (aOs : PySem.W.nsIn K mainGlobals "is_of_signs" = some (some (.ref fOs))) (lOs : K.lookup fOs = some ⟨ocOs, odOs, .func (PySem.W.fnOf "is_of_signs" "is_of_signs" (defArgs sOs) (defBody sOs) (defScope sOs) .none kVOs dcOs pmOs anOs cdOs ctOs), slOs⟩) (cOs : PySem.W.codeIn K cdOs "is_of_signs" = true) (kOs : PySem.W.keepIn K (.ref fOs) = true)
    {fIn : Addr} {odIn anIn : Option Addr} {slIn : Array (Option Value)} {ocIn kVIn dcIn pmIn cdIn ctIn : Value}
    (aIn : PySem.W.nsIn K mainGlobals "is_number" = some (some (.ref fIn))) (lIn : K.lookup fIn = some ⟨ocIn, odIn, .func (PySem.W.fnOf "is_number" "is_number" (defArgs sIn) (defBody sIn) (defScope sIn) .none kVIn dcIn pmIn anIn cdIn ctIn), slIn⟩) (cIn : PySem.W.codeIn K cdIn "is_number" = true) (kIn : PySem.W.keepIn K (.ref fIn) = true)
    {fRn : Addr} {odRn anRn : Option Addr} {slRn : Array (Option Value)} {ocRn kVRn dcRn pmRn cdRn ctRn : Value}
    (aRn : PySem.W.nsIn K mainGlobals "read_number" = some (some (.ref fRn))) (lRn : K.lookup fRn = some ⟨ocRn, odRn, .func (PySem.W.fnOf "read_number" "read_number" (defArgs sRn) (defBody sRn) (defScope sRn) .none kVRn dcRn pmRn anRn cdRn ctRn), slRn⟩) (cRn : PySem.W.codeIn K cdRn "read_number" = true) (kRn : PySem.W.keepIn K (.ref fRn) = true)
    {fWhole : Addr} {odWhole anWhole : Option Addr} {slWhole : Array (Option Value)} {ocWhole kVWhole dcWhole pmWhole cdWhole ctWhole : Value}
    (aWhole : PySem.W.nsIn K mainGlobals "is_whole" = some (some (.ref fWhole))) (lWhole : K.lookup fWhole = some ⟨ocWhole, odWhole, .func (PySem.W.fnOf "is_whole" "is_whole" (defArgs sWhole) (defBody sWhole) (defScope sWhole) .none kVWhole dcWhole pmWhole anWhole cdWhole ctWhole), slWhole⟩) (cWhole : PySem.W.codeIn K cdWhole "is_whole" = true) (kWhole : PySem.W.keepIn K (.ref fWhole) = true)
    {fRow : Addr} {odRow anRow : Option Addr} {slRow : Array (Option Value)} {ocRow kVRow dcRow pmRow cdRow ctRow : Value}
    (aRow : PySem.W.nsIn K mainGlobals "is_row" = some (some (.ref fRow))) (lRow : K.lookup fRow = some ⟨ocRow, odRow, .func (PySem.W.fnOf "is_row" "is_row" (defArgs sRow) (defBody sRow) (defScope sRow) .none kVRow dcRow pmRow anRow cdRow ctRow), slRow⟩) (cRow : PySem.W.codeIn K cdRow "is_row" = true) (kRow : PySem.W.keepIn K (.ref fRow) = true)
    {fRr : Addr} {odRr anRr : Option Addr} {slRr : Array (Option Value)} {ocRr kVRr dcRr pmRr cdRr ctRr : Value}
    (aRr : PySem.W.nsIn K mainGlobals "read_row" = some (some (.ref fRr))) (lRr : K.lookup fRr = some ⟨ocRr, odRr, .func (PySem.W.fnOf "read_row" "read_row" (defArgs sRr) (defBody sRr) (defScope sRr) .none kVRr dcRr pmRr anRr cdRr ctRr), slRr⟩) (cRr : PySem.W.codeIn K cdRr "read_row" = true) (kRr : PySem.W.keepIn K (.ref fRr) = true)
    {fRu : Addr} {odRu anRu : Option Addr} {slRu : Array (Option Value)} {ocRu kVRu dcRu pmRu cdRu ctRu : Value}
    (aRu : PySem.W.nsIn K mainGlobals "read_run" = some (some (.ref fRu))) (lRu : K.lookup fRu = some ⟨ocRu, odRu, .func (PySem.W.fnOf "read_run" "read_run" (defArgs sRu) (defBody sRu) (defScope sRu) .none kVRu dcRu pmRu anRu cdRu ctRu), slRu⟩) (cRu : PySem.W.codeIn K cdRu "read_run" = true) (kRu : PySem.W.keepIn K (.ref fRu) = true)
    {fRp : Addr} {odRp anRp : Option Addr} {slRp : Array (Option Value)} {ocRp kVRp dcRp pmRp cdRp ctRp : Value}
    (aRp : PySem.W.nsIn K mainGlobals "read_plan" = some (some (.ref fRp))) (lRp : K.lookup fRp = some ⟨ocRp, odRp, .func (PySem.W.fnOf "read_plan" "read_plan" (defArgs sRp) (defBody sRp) (defScope sRp) .none kVRp dcRp pmRp anRp cdRp ctRp), slRp⟩) (cRp : PySem.W.codeIn K cdRp "read_plan" = true) (kRp : PySem.W.keepIn K (.ref fRp) = true)
    {fLaw : Addr} {odLaw anLaw : Option Addr} {slLaw : Array (Option Value)} {ocLaw kVLaw dcLaw pmLaw cdLaw ctLaw : Value}
    (aLaw : PySem.W.nsIn K mainGlobals "law" = some (some (.ref fLaw))) (lLaw : K.lookup fLaw = some ⟨ocLaw, odLaw, .func (PySem.W.fnOf "law" "law" (defArgs sLaw) (defBody sLaw) (defScope sLaw) .none kVLaw dcLaw pmLaw anLaw cdLaw ctLaw), slLaw⟩) (cLaw : PySem.W.codeIn K cdLaw "law" = true) (kLaw : PySem.W.keepIn K (.ref fLaw) = true)
    {tMOST_FIGURES : Tok} (aMOST_FIGURES : PySem.W.nsIn K mainGlobals "MOST_FIGURES" = some (some (.int 30 tMOST_FIGURES)))
    {tFIGURES : Tok} (aFIGURES : PySem.W.nsIn K mainGlobals "FIGURES" = some (some (.str "0123456789" tFIGURES)))
    {tMOST_PLACES : Tok} (aMOST_PLACES : PySem.W.nsIn K mainGlobals "MOST_PLACES" = some (some (.int 12 tMOST_PLACES)))
    {tABOVE_THIRTY_FIGURES : Tok} (aABOVE_THIRTY_FIGURES : PySem.W.nsIn K mainGlobals "ABOVE_THIRTY_FIGURES" = some (some (.int (10 ^ 30) tABOVE_THIRTY_FIGURES)))
    (aNT : PySem.W.nsIn K mainGlobals "NoText" = some (some (.ref NT)))
    (xNT : PySem.W.excIn K NT [.type "ValueError", .type "Exception", .type "BaseException", .type "object"] "ValueError.__new__" = true)
    (kNT : PySem.W.keepIn K (.ref NT) = true)
    (bNT : PySem.W.subIn K (.ref NT) (.type "BaseException") = some true)
    (tNT : PySem.W.typeIn K (.ref NT) = some (.type "type"))
    (z_abs : PySem.W.nsIn K mainGlobals "abs" = some none)
    (z_all : PySem.W.nsIn K mainGlobals "all" = some none)
    (z_bool : PySem.W.nsIn K mainGlobals "bool" = some none)
    (z_int : PySem.W.nsIn K mainGlobals "int" = some none)
    (z_isinstance : PySem.W.nsIn K mainGlobals "isinstance" = some none)
    (z_len : PySem.W.nsIn K mainGlobals "len" = some none)
    (z_max : PySem.W.nsIn K mainGlobals "max" = some none)
    (z_min : PySem.W.nsIn K mainGlobals "min" = some none)
    (z_range : PySem.W.nsIn K mainGlobals "range" = some none)
    (z_repr : PySem.W.nsIn K mainGlobals "repr" = some none)
    (z_str : PySem.W.nsIn K mainGlobals "str" = some none)
    (z_sum : PySem.W.nsIn K mainGlobals "sum" = some none)
    (z_tuple : PySem.W.nsIn K mainGlobals "tuple" = some none)
    : ∃ (fd : FuncData) (cs : List (Addr × Addr)) (sp : Sp), (∀ p ∈ cs, h.get? p.2 = some tabO) ∧ (∀ p ∈ cs, K.lookup p.2 = none) ∧ (∀ p ∈ cs, PySem.W.CodeHd h p.1 p.2) ∧ (∀ (s : Shared) (v : Value), BindsTo s fd ⟨[v], []⟩ [("_law_script", v)]) ∧
      (∀ (H : Hp) (a : Addr) (ns : List Int), ns.length ≤ 63 → (∀ p ∈ cs, H p.2 = some (.tbl #[])) → SqL K H a (ns.map V.int) → sp [.ref a] H (fun v _ => v = .bl true) fun _ _ _ => False) ∧
      ∀ base : Heap, K.In base → base.Ns mainGlobals mg → SysD base → (∀ p ∈ cs, TabB base mg p.1 p.2) → FnG l.prog w K mg base 6 fa fd ["_law_script"] sp := by
  have e := hfa.symm.trans (PySem.W.mg_of X G aLaw)
  cases e
  have FBox := fun_mk (st := sBox) lBox cBox kBox
  have bBox := FBox.binds (ps := ["_law_script", "_law_k"]) fun _ _ _ _ _ _ us hl => match us, hl with | [_, _], _ => rfl
  have gBox := PySem.W.mg_of X G aBox
  have FTake := fun_mk (st := sTake) lTake cTake kTake
  have bTake := FTake.binds (ps := ["_law_box_here", "_law_many"]) fun _ _ _ _ _ _ us hl => match us, hl with | [_, _], _ => rfl
  have gTake := PySem.W.mg_of X G aTake
  have FOf := fun_mk (st := sOf) lOf cOf kOf
  have bOf := FOf.binds (ps := ["_law_box_here", "_law_some"]) fun _ _ _ _ _ _ us hl => match us, hl with | [_, _], _ => rfl
  have gOf := PySem.W.mg_of X G aOf
  have FNum := fun_mk (st := sNum) lNum cNum kNum
  have bNum := FNum.binds (ps := ["_law_box_here"]) fun _ _ _ _ _ _ us hl => match us, hl with | [_], _ => rfl
  have gNum := PySem.W.mg_of X G aNum
  have FAr := fun_mk (st := sAr) lAr cAr kAr
  have bAr := FAr.binds (ps := ["_law_box_here"]) fun _ _ _ _ _ _ us hl => match us, hl with | [_], _ => rfl
  have gAr := PySem.W.mg_of X G aAr
  have FPln := fun_mk (st := sPln) lPln cPln kPln
  have bPln := FPln.binds (ps := ["_law_box_here"]) fun _ _ _ _ _ _ us hl => match us, hl with | [_], _ => rfl
  have gPln := PySem.W.mg_of X G aPln
  have FRt := fun_mk (st := sRt) lRt cRt kRt
  have bRt := FRt.binds (ps := ["_law_row"]) fun _ _ _ _ _ _ us hl => match us, hl with | [_], _ => rfl
  have gRt := PySem.W.mg_of X G aRt
  have FPtx := fun_mk (st := sPtx) lPtx cPtx kPtx
  have bPtx := FPtx.binds (ps := ["_law_plan_here"]) fun _ _ _ _ _ _ us hl => match us, hl with | [_], _ => rfl
  have gPtx := PySem.W.mg_of X G aPtx
  have FSr := fun_mk (st := sSr) lSr cSr kSr
  have bSr := FSr.binds (ps := ["row"]) fun _ _ _ _ _ _ us hl => match us, hl with | [_], _ => rfl
  have gSr := PySem.W.mg_of X G aSr
  have FSu := fun_mk (st := sSu) lSu cSu kSu
  have bSu := FSu.binds (ps := ["run"]) fun _ _ _ _ _ _ us hl => match us, hl with | [_], _ => rfl
  have gSu := PySem.W.mg_of X G aSu
  have FSp := fun_mk (st := sSp) lSp cSp kSp
  have bSp := FSp.binds (ps := ["plan"]) fun _ _ _ _ _ _ us hl => match us, hl with | [_], _ => rfl
  have gSp := PySem.W.mg_of X G aSp
  have FWd := fun_mk (st := sWd) lWd cWd kWd
  have bWd := FWd.binds (ps := ["text"]) fun _ _ _ _ _ _ us hl => match us, hl with | [_], _ => rfl
  have gWd := PySem.W.mg_of X G aWd
  have FOs := fun_mk (st := sOs) lOs cOs kOs
  have bOs := FOs.binds (ps := ["text", "signs"]) fun _ _ _ _ _ _ us hl => match us, hl with | [_, _], _ => rfl
  have gOs := PySem.W.mg_of X G aOs
  have FIn := fun_mk (st := sIn) lIn cIn kIn
  have bIn := FIn.binds (ps := ["text"]) fun _ _ _ _ _ _ us hl => match us, hl with | [_], _ => rfl
  have gIn := PySem.W.mg_of X G aIn
  have FRn := fun_mk (st := sRn) lRn cRn kRn
  have bRn := FRn.binds (ps := ["text"]) fun _ _ _ _ _ _ us hl => match us, hl with | [_], _ => rfl
  have gRn := PySem.W.mg_of X G aRn
  have FWhole := fun_mk (st := sWhole) lWhole cWhole kWhole
  have bWhole := FWhole.binds (ps := ["thing"]) fun _ _ _ _ _ _ us hl => match us, hl with | [_], _ => rfl
  have gWhole := PySem.W.mg_of X G aWhole
  have FRow := fun_mk (st := sRow) lRow cRow kRow
  have bRow := FRow.binds (ps := ["thing"]) fun _ _ _ _ _ _ us hl => match us, hl with | [_], _ => rfl
  have gRow := PySem.W.mg_of X G aRow
  have FRr := fun_mk (st := sRr) lRr cRr kRr
  have bRr := FRr.binds (ps := ["text"]) fun _ _ _ _ _ _ us hl => match us, hl with | [_], _ => rfl
  have gRr := PySem.W.mg_of X G aRr
  have FRu := fun_mk (st := sRu) lRu cRu kRu
  have bRu := FRu.binds (ps := ["word"]) fun _ _ _ _ _ _ us hl => match us, hl with | [_], _ => rfl
  have gRu := PySem.W.mg_of X G aRu
  have FRp := fun_mk (st := sRp) lRp cRp kRp
  have bRp := FRp.binds (ps := ["text"]) fun _ _ _ _ _ _ us hl => match us, hl with | [_], _ => rfl
  have gRp := PySem.W.mg_of X G aRp
  have FLaw := fun_mk (st := sLaw) lLaw cLaw kLaw
  have gMOST_FIGURES := PySem.W.mg_of X G aMOST_FIGURES
  have gFIGURES := PySem.W.mg_of X G aFIGURES
  have gMOST_PLACES := PySem.W.mg_of X G aMOST_PLACES
  have gABOVE_THIRTY_FIGURES := PySem.W.mg_of X G aABOVE_THIRTY_FIGURES
  have gNT := PySem.W.mg_of X G aNT
  have m_abs := PySem.W.mg_none_of X G z_abs
  have m_all := PySem.W.mg_none_of X G z_all
  have m_bool := PySem.W.mg_none_of X G z_bool
  have m_int := PySem.W.mg_none_of X G z_int
  have m_isinstance := PySem.W.mg_none_of X G z_isinstance
  have m_len := PySem.W.mg_none_of X G z_len
  have m_max := PySem.W.mg_none_of X G z_max
  have m_min := PySem.W.mg_none_of X G z_min
  have m_range := PySem.W.mg_none_of X G z_range
  have m_repr := PySem.W.mg_none_of X G z_repr
  have m_str := PySem.W.mg_none_of X G z_str
  have m_sum := PySem.W.mg_none_of X G z_sum
  have m_tuple := PySem.W.mg_none_of X G z_tuple
  refine ⟨PySem.W.fnOf "law" "law" (defArgs sLaw) (defBody sLaw) (defScope sLaw) .none kVLaw dcLaw pmLaw anLaw cdLaw ctLaw, [], spLaw K , (fun _ z => nomatch z), (fun _ z => nomatch z), (fun _ z => nomatch z), fun s v => .of_eq rfl, fun H a ns hl hT hS => ⟨a, ns, rfl, hS, hl, fun _ => rfl⟩, fun base _ _ sys tb => ?_⟩
  have XNoText : ExcF K mg "NoText" NT := ⟨gNT, xNT, kNT, bNT, tNT⟩
  have GBox := ok_box (P := l.prog) (w := w) (mg := mg) (base := base) (k := 0) FBox m_len m_abs m_int
  have GTake := ok_take (P := l.prog) (w := w) (mg := mg) (base := base) (k := 0) FTake
  have GOf := ok_of (P := l.prog) (w := w) (mg := mg) (base := base) (k := 0) FOf FTake bTake gTake m_len
  have GNum := ok_num (P := l.prog) (w := w) (mg := mg) (base := base) (k := 0) FNum FTake bTake gTake FOf bOf gOf m_len
  have GAr := ok_ar (P := l.prog) (w := w) (mg := mg) (base := base) (k := 0) FAr FTake bTake gTake FOf bOf gOf FNum bNum gNum GNum m_len m_range m_sum m_tuple
  have GPln := ok_pln (P := l.prog) (w := w) (mg := mg) (base := base) (k := 0) FPln FTake bTake gTake FOf bOf gOf FNum bNum gNum GNum m_len m_range m_tuple
  have GRt := ok_rt (P := l.prog) (w := w) (mg := mg) (base := base) (k := 0) FRt m_str
  have GPtx := ok_ptx (P := l.prog) (w := w) (mg := mg) (base := base) (k := 0) FPtx m_str
  have GSr := ok_sr (P := l.prog) (w := w) (mg := mg) (base := base) (k := 0) FSr m_str
  have GSu := ok_su (P := l.prog) (w := w) (mg := mg) (base := base) (k := 0) FSu
  have GSp := ok_sp (P := l.prog) (w := w) (mg := mg) (base := base) (k := 0) FSp FSu bSu gSu GSu
  have GWd := ok_wd (P := l.prog) (w := w) (mg := mg) (base := base) (k := 0) FWd XNoText m_isinstance m_str
  have GOs := ok_os (P := l.prog) (w := w) (mg := mg) (base := base) (k := 0) FOs m_all
  have GIn := ok_in (P := l.prog) (w := w) (mg := mg) (base := base) (k := 0) FIn FOs bOs gOs gMOST_FIGURES gFIGURES m_all m_len
  have GRn := ok_rn (P := l.prog) (w := w) (mg := mg) (base := base) (k := 0) FRn XNoText FIn bIn gIn GIn m_int
  have GWhole := ok_whole (P := l.prog) (w := w) (mg := mg) (base := base) (k := 0) FWhole m_isinstance m_int m_bool
  have GRow := ok_row (P := l.prog) (w := w) (mg := mg) (base := base) (k := 0) FRow FWhole bWhole gWhole gMOST_PLACES gABOVE_THIRTY_FIGURES m_isinstance m_int m_bool m_tuple m_all m_sum m_len
  have GRr := ok_rr (P := l.prog) (w := w) (mg := mg) (base := base) (k := 0) FRr XNoText FWd bWd gWd GWd FRn bRn gRn GRn FRow bRow gRow GRow m_tuple
  have GRu := ok_ru (P := l.prog) (w := w) (mg := mg) (base := base) (k := 0) FRu XNoText FRn bRn gRn GRn gMOST_PLACES
  have GRp := ok_rp (P := l.prog) (w := w) (mg := mg) (base := base) (k := 0) FRp FWd bWd gWd GWd FRu bRu gRu GRu m_tuple
  exact ok_law (k := 0) sys FLaw FBox bBox gBox GBox FTake bTake gTake FAr bAr gAr GAr FPln bPln gPln GPln FRt bRt gRt GRt FPtx bPtx gPtx GPtx FSr bSr gSr GSr FSp bSp gSp GSp FRr bRr gRr GRr FRp bRp gRp GRp m_len m_min m_max m_range m_repr
end K60
open PySem PySem.W PyProof.Rows
set_option maxHeartbeats 0 in
theorem PySem.Challenge.cw_matchgift_k60_rows_and_plans_written_holds : PySem.Challenge.rw_matchgift_k60_rows_and_plans_written.Holds := by
  w_on; o_law; k_head; (case hw => w_witness2)
  k_fill
  refine MG.walkGT (l := PySem.Challenge.rw_matchgift_k60_rows_and_plans_written) (n := 63) (k := 6) (x := "_law_script") rfl (by decide) rfl ⟨rfl, by decide, by decide⟩ (by decide +kernel) (fun w h Y => PySem.W.kIn_of Y) ?F
  case F =>
    intro w mg fa h Y KX G hmg
    refine' K60.all_mk KX G hmg ?aBox ?lBox ?cBox ?kBox ?aTake ?lTake ?cTake ?kTake ?aOf ?lOf ?cOf ?kOf ?aNum ?lNum ?cNum ?kNum ?aAr ?lAr ?cAr ?kAr ?aPln ?lPln ?cPln ?kPln ?aRt ?lRt ?cRt ?kRt ?aPtx ?lPtx ?cPtx ?kPtx ?aSr ?lSr ?cSr ?kSr ?aSu ?lSu ?cSu ?kSu ?aSp ?lSp ?cSp ?kSp ?aWd ?lWd ?cWd ?kWd ?aOs ?lOs ?cOs ?kOs ?aIn ?lIn ?cIn ?kIn ?aRn ?lRn ?cRn ?kRn ?aWhole ?lWhole ?cWhole ?kWhole ?aRow ?lRow ?cRow ?kRow ?aRr ?lRr ?cRr ?kRr ?aRu ?lRu ?cRu ?kRu ?aRp ?lRp ?cRp ?kRp ?aLaw ?lLaw ?cLaw ?kLaw ?aMOST_FIGURES ?aFIGURES ?aMOST_PLACES ?aABOVE_THIRTY_FIGURES ?aNT ?xNT ?kNT ?bNT ?tNT ?z_abs ?z_all ?z_bool ?z_int ?z_isinstance ?z_len ?z_max ?z_min ?z_range ?z_repr ?z_str ?z_sum ?z_tuple
    (case aNT => k_is); (case aBox => k_is); (case lBox => k_is); (case cBox => k_is); (case kBox => k_is); (case aTake => k_is); (case lTake => k_is); (case cTake => k_is); (case kTake => k_is); (case aOf => k_is); (case lOf => k_is); (case cOf => k_is); (case kOf => k_is); (case aNum => k_is); (case lNum => k_is); (case cNum => k_is); (case kNum => k_is); (case aAr => k_is); (case lAr => k_is); (case cAr => k_is); (case kAr => k_is); (case aPln => k_is); (case lPln => k_is); (case cPln => k_is); (case kPln => k_is); (case aRt => k_is); (case lRt => k_is); (case cRt => k_is); (case kRt => k_is); (case aPtx => k_is); (case lPtx => k_is); (case cPtx => k_is); (case kPtx => k_is); (case aSr => k_is); (case lSr => k_is); (case cSr => k_is); (case kSr => k_is); (case aSu => k_is); (case lSu => k_is); (case cSu => k_is); (case kSu => k_is); (case aSp => k_is); (case lSp => k_is); (case cSp => k_is); (case kSp => k_is); (case aWd => k_is); (case lWd => k_is); (case cWd => k_is); (case kWd => k_is); (case aOs => k_is); (case lOs => k_is); (case cOs => k_is); (case kOs => k_is); (case aIn => k_is); (case lIn => k_is); (case cIn => k_is); (case kIn => k_is); (case aRn => k_is); (case lRn => k_is); (case cRn => k_is); (case kRn => k_is); (case aWhole => k_is); (case lWhole => k_is); (case cWhole => k_is); (case kWhole => k_is); (case aRow => k_is); (case lRow => k_is); (case cRow => k_is); (case kRow => k_is); (case aRr => k_is); (case lRr => k_is); (case cRr => k_is); (case kRr => k_is); (case aRu => k_is); (case lRu => k_is); (case cRu => k_is); (case kRu => k_is); (case aRp => k_is); (case lRp => k_is); (case cRp => k_is); (case kRp => k_is); (case aLaw => k_is); (case lLaw => k_is); (case cLaw => k_is); (case kLaw => k_is); (case aMOST_FIGURES => k_is); (case aFIGURES => k_is); (case aMOST_PLACES => k_is); (case aABOVE_THIRTY_FIGURES => k_is); (case xNT => k_exc); (case kNT => k_is); (case bNT => k_is); (case tNT => k_is); (case z_abs => k_is); (case z_all => k_is); (case z_bool => k_is); (case z_int => k_is); (case z_isinstance => k_is); (case z_len => k_is); (case z_max => k_is); (case z_min => k_is); (case z_range => k_is); (case z_repr => k_is); (case z_str => k_is); (case z_sum => k_is); (case z_tuple => k_is)
