import PyProof.Rows.All
import Wide.All
import OpenK.AllK
import Wide.FinOn
import PySem.Challenge.RW_matchgift_k61_texts_changed_anywhere
import HandS.ForMost
import HandS.IsInst
import HandS.TupAny
import HandS.TupMul
import HandS.Wide
import HandS.Flow
import HandS.RaiseMore
import PyProof.ReprRoads
import KE.GoesNew
import KE.KTupSum
import HandS.Walk
import HandS.WideBits
import PyProof.Rows.BitMore
import KE.BitLaws
import HandS.Zip
import HandS.Steps
import HandS.Text
import KE.IntTextText
import HandS.Comp
import HandS.Exc
import KE.GoesComp
import HandS.ExcOwn
import HandS.EndTab
import HandS.Nested
import KE.SortKeyHeap
import PyProof.TupleOfSeq
import HandS.ExcIs
import HandS.WordsExc
import HandS.Style
import PyProof.Rows.StrRev
import HandS.TryOnly
import HandS.Deep
set_option Elab.async false
set_option linter.all false
set_option maxRecDepth 100000
set_option maxHeartbeats 2000000
/-! MG: promises of defs that are called where no repr is under way, and repr of data by them. -/
namespace MG
open PySem PySem.Spec PyProof.Rows L2

structure FnG (P : Program) (w : World) (K : PySem.W.Frag) (mg : Str → Option Value) (base : Heap) (k : Nat)
    (f : Addr) (fd : FuncData) (ps : List Str) (sp : Sp) : Prop where
  len : ∀ vs H Q E, sp vs H Q E → vs.length = ps.length
  run : ∀ (A : Around) (outer : List Env) (s : Shared) (H : Hp) (args : Args) (us : List Value) (vs : List V) (Q : VK) (E : XK),
    A.guards = some [] → Room k A → Env0 P w K mg base A outer s H →
    BindsTo s fd args (ps.zip us) → Vals vs us → sp vs H Q E →
    codeAny (model P w) A (.call (.ref f) args) (CR CX0 outer P w H s Q E) s

section
variable {P : Program} {w : World} {K : PySem.W.Frag} {mg : Str → Option Value} {base : Heap}
theorem okG {x qual : Str} {st : Stmt} {f : Addr} {fd : FuncData} {N ps : List Str} {k : Nat} {sp : Sp}
    (F : Fun K x qual st f fd) (S : FnScope N ps (defScope st))
    (hlen : ∀ vs H Q E, sp vs H Q E → vs.length = ps.length)
    (body : ∀ (cdv : Value) (A : Around) (outer : List Env) (s : Shared) (H : Hp) (vs : List V) (Q : VK) (E : XK),
      A.guards = some [] → Room k (A.deeper (envOfC qual (defScope st) s.heap.objs.size f cdv)) → sp vs H Q E →
      ∃ t, PSs (cxOf CX0 P w K mg base N qual (defScope st) f cdv A outer s H E).nox (defBody st) t ∧
        t { nx := fun _ H' => Q .non H', rt := Q } (start N vs) H) :
    FnG P w K mg base (k + 1) f fd ps sp := by
  obtain ⟨oc, od, kV, doc, pm, an, cdv, ct, osl, rfl, lk, hcd⟩ := F.ex
  refine ⟨hlen, ?_⟩
  intro A outer s H args us vs Q E gd room e0 bnd rel want
  have inK : K.In s.heap := e0.mod.kin.keeps (fun b o q => (e0.bs b o q).left)
  have noLim : s.heap.NoLimit := e0.mod.nolimit.keeps (fun b o q => (e0.bs b o q).left)
  refine codeAny_call_function room.depth (inK _ _ lk) rfl S.co S.gen rfl
    (PySem.W.codeRec_of inK hcd) (bnd _ _ _ _ ?_)
  refine wpAny_newFunctionEnv_cells S.kind ?_ ?_
  · rintro ⟨n, v⟩ hy
    rcases S.par n (List.of_mem_zip hy).1 with loc | cel
    · exact Or.inl loc
    · exact Or.inr ⟨cel, PySem.W.cellsFrom_some _ _ _ (Or.inl cel)⟩
  · intro env he s1 x
    subst he
    refine ⟨noLim.keeps x.toInCall.keep, codeAny_func ?_⟩
    obtain ⟨t, ht0, hq⟩ := body cdv A outer s H vs Q E gd (room.deeper _) want
    have ht := ht0.nox
    have I := inv_start (CX := CX0) (N := N) (qual := qual) (f := f) (cd := cdv) (E := E) S room.hd e0 (hlen _ _ _ _ want) rel x
    refine wpAny_mono (ht.run [] s1 (start N vs) H _ I hq) ?_ (fun _ _ z => z)
    intro fl s' hs
    cases fl with
    | ret u =>
      obtain ⟨v, σ', H', J, rv, q⟩ := hs
      exact ⟨v, H', J.os, J.bare, J.base, J.hok, rv, q⟩
    | next =>
      obtain ⟨σ', H', J, q⟩ := hs
      exact ⟨V.non, H', J.os, J.bare, J.base, J.hok, rfl, q⟩
    | brk =>
      obtain ⟨_, _, _, q⟩ := hs
      exact q.elim
    | cont =>
      obtain ⟨_, _, _, q⟩ := hs
      exact q.elim
end

section
variable {X : Cx} {k : Nat} {f : Addr} {fd : FuncData} {ps : List Str} {sp : Sp} {E : XK} {x : Str} {p pos : Pos}
  {e : Expr} {es : List Expr} {t : TA}
/-- f(e, ..) of such a def -/
theorem pe_callG (F : FnG X.prog X.w X.K X.mg X.base k f fd ps sp) (gd : X.A.guards = some []) (hr : Room k X.A) (hg : Gl X x)
    (hm : X.mg x = some (.ref f)) (hk : PySem.W.keepIn X.K (.ref f) = true) (hb : Binds X.K fd ps []) (ha : PA X (e :: es) t)
    (hdb : (x == ("__debug__" : Str)) = false := by decide)
    (he : starEach (e :: es) X.env = (false, eval e X.env) :: starEach es X.env := by rfl)
    (hpl : (backTo pos (starEach es X.env)).any (·.1) = false := by rfl) :
    PE X (.Call (.Name x p) (e :: es) [] pos) (tCall sp [] E t) := by
  constructor
  intro pins s σ H Q I h
  refine wpAny_Call_Name_kw (ld_glob I hg hm ?_ hdb)
  refine PySem.W.callWith_K (h₀ := X.base) I.ok.mod.kin hk ?_ he hpl
  refine thn (ha.run pos pins s σ H _ I h) ?_
  rintro us s1 ⟨vs, H1, I1, r, q⟩
  refine ⟨I1.kIn, ?_⟩
  have q' : sp (vs ++ []) H1 Q E := q
  rw [List.append_nil] at q'
  have hl : us.length = ps.length := by
    rw [← r.length]
    exact F.len _ _ _ _ q'
  have hb' := hb s1 us I1.kIn (by simpa using hl)
  rw [List.append_nil] at hb'
  refine wpAny_call (codeAny_mono (F.run X.A X.stack s1 H1 ⟨us, []⟩ us vs Q E gd hr I1.env0 hb' r q') ?_)
  intro res s' hq
  cases res with
  | error e => exact False.elim hq
  | ok fl =>
    cases fl with
    | ret u => exact I1.after hq
    | next => exact False.elim hq
    | brk => exact False.elim hq
    | cont => exact False.elim hq
end
end MG

namespace MG
open PySem PySem.Spec PyProof.Rows L2

def SysD (h : Heap) : Prop := ∃ mm, h.Ns sysModules mm
end MG

namespace MG
open PySem PySem.Spec PyProof.Rows L2

/-- behind enumerate(v): v's iterator, and who counts beside it -/
abbrev counts (g : Heap) (o : Obj) : Heap :=
  (g.push o).push { cls := .type "enumerate", data := .fields #[.none, .bool false, .ref g.objs.size, rawInt 0, .none, .none] }
/-! ### walks that tell a new tuple each time -/
section told
variable {X : Cx} {pins : List (Addr × Obj)} {σ : L2.St} {H : Hp} {s : Shared} {ours : List Addr} {g : Heap} {tk : Nat}
end told

/-! ### enumerate of a tuple -/
def IteT (K : PySem.W.Frag) (a : Addr) : It :=
  ⟨fun i H => ∃ (xs : List V) (x : V), SqT K H a xs ∧ xs[i]? = some x,
   fun i H v H' => ∃ T x, v = .ref T ∧ H T = none ∧ H' = upd H T (.tup [.int (i : Nat), x]) ∧ ∀ xs, SqT K H a xs → xs[i]? = some x,
   fun i H => ∃ xs : List V, SqT K H a xs ∧ xs.length = i⟩
/-- who counts at e, over the iterator at t of the tuple at a, i told -/
def EnT (a e t : Addr) (i : Nat) (g : Heap) : Prop := (∃ old, IsEnum g e t (i : Nat) old) ∧ g.IsTupleIter t a i ∧ e ≠ t
def iEnumT (K : PySem.W.Frag) (ta : TA) : TI := fun σ H R => ta σ H fun vs H1 => ∃ a xs, vs = [.ref a] ∧ SqT K H1 a xs ∧ R (IteT K a) H1
/-! ### sum of a tuple of whole numbers -/
theorem sumT {X : Cx} (hc : X.calm = true) : CallR X (.builtin "sum") (fun vs H Q => ∃ (a : Addr) (ns : List Int),
    vs = [V.ref a] ∧ SqT X.K H a (ns.map V.int) ∧ Q (.int ns.sum) H) := by
  rintro pins s σ H xs us Q I r ⟨a, ns, rfl, hq, q⟩
  obtain rfl := r.ref1
  obtain ⟨its, rv, p, hz⟩ := I.tuple hq
  have hi : IntsAre its ns := rv.ints
  obtain ⟨ys, hy⟩ := hi.allInts.items
  have hn : numsOf its.toArray.toList = ns := by
    rw [show its.toArray.toList = its from rfl, hi.numsOf]
  have p' : s.heap.IsTuple a its.toArray := p
  rw [hy] at p' hn
  rw [nums_intItems] at hn
  refine PySem.W.ktm_sumG (I.ok.hd hc) p' ?_
  intro h' tk t' hk
  have e : preSum (numAt ys) ys.size = ns.sum := by
    rw [preSum_eq, List.take_of_length_le (by simp), hn]
  rw [e]
  exact ⟨.int ns.sum, H, I.kept hk, ⟨t', rfl⟩, q⟩

/-! ### a text so many times -/
def repText (z : Str) (n : Nat) : Str := ⟨(List.replicate n z.cps).foldl (· ++ ·) #[]⟩
theorem repS {X : Cx} : OpR X (binaryOp .Mult) (fun x y H Q => ∃ (z : Str) (n : Int), x = .str z ∧ y = .int n ∧ 2 ≤ n ∧ n ≤ 1000 ∧
    z.length = 1 ∧ (repText z n.toNat).length ≤ sizeLine ∧ Q (.str (repText z n.toNat)) H) := by
  rintro pins s σ H x y v u Q I rx ry ⟨z, n, rfl, rfl, h1, h2, hz, hs, q⟩
  obtain ⟨t, rfl⟩ := rx
  obtain ⟨t2, rfl⟩ := ry
  have c1 : ¬ n < 1 := by omega
  have c2 : (n == 1 || z.length == 0) = false := by
    rw [hz, show (n == 1) = false from beq_eq_false_iff_ne.mpr (by omega)]
    rfl
  refine PySem.P.mul_str ?_ ?_ ?_ ?_
  · rw [decide_eq_false (show ¬ n < -(2 ^ 63 : Int) by omega), decide_eq_false (show ¬ n ≥ 2 ^ 63 by omega)]
    rfl
  · intro _ _
    rw [hz]
    have : (1 : Int) ≤ (2 ^ 63 - 1) / n := by
      refine (Int.le_ediv_iff_mul_le (by omega)).mpr ?_
      omega
    omega
  · intro _ _
    show decide (z.length * n.toNat > sizeLine) = false
    rw [hz]
    refine decide_eq_false ?_
    rw [sizeLine_eq]
    omega
  · rw [if_neg c1, if_neg (by rw [c2]; exact Bool.false_ne_true)]
    exact ⟨hs, .str _, H, I.tok _, ⟨_, rfl⟩, q⟩

/-! ### a tuple so many times, once and never, too -/
end MG

namespace MG
open PySem PySem.Spec PyProof.Rows L2

def rRepA (K : PySem.W.Frag) : R2 := fun x y H Q => ∃ l k xs, x = .ref l ∧ y = .int k ∧ SqT K H l xs ∧ xs ≠ [] ∧ 0 ≤ k ∧ k ≤ 1000 ∧
  xs.length ≤ 1000 ∧ (k = 1 → Q (.ref l) H) ∧ (k ≠ 1 → ∀ p, H p = none → Q (.ref p) (upd H p (.tup (List.replicate k.toNat xs).flatten)))
/-! ### data: None, truths, whole numbers, texts, lists, tuples, dicts with text keys -/
def kD : Key → PyData
  | .inl i => .int i
  | .inr x => .str x
mutual
inductive Dd (H : Hp) : V → PyData → Prop
  | non : Dd H .non .none
  | bl (b : Bool) : Dd H (.bl b) (.bool b)
  | int (i : Int) : Dd H (.int i) (.int i)
  | str (x : Str) : Dd H (.str x) (.str x)
  | lst {a : Addr} {xs : List V} {ds : List PyData} : H a = some (.lst xs) → DdAll H xs ds → Dd H (.ref a) (.list ds)
  | tup {a : Addr} {xs : List V} {ds : List PyData} : H a = some (.tup xs) → DdAll H xs ds → Dd H (.ref a) (.tuple ds)
  | dic {a : Addr} {kvs : List (Key × V)} {ds : List PyData} : H a = some (.dK kvs) → DdAll H (kvs.map (·.2)) ds →
      Dd H (.ref a) (.dict ((kvs.map fun p => kD p.1).zip ds))
inductive DdAll (H : Hp) : List V → List PyData → Prop
  | nil : DdAll H [] []
  | cons {v : V} {vs : List V} {d : PyData} {ds : List PyData} : Dd H v d → DdAll H vs ds → DdAll H (v :: vs) (d :: ds)
end
theorem DdAll.length {H : Hp} : ∀ {vs : List V} {ds : List PyData}, DdAll H vs ds → ds.length = vs.length
  | [], _, h => by cases h; rfl
  | v :: vs, _, h => by
    cases h with
    | cons _ t => rw [List.length_cons, List.length_cons, t.length]

mutual
theorem Dd.same {H H' : Hp} (s : Same H H') : ∀ {v : V} {d : PyData}, Dd H v d → Dd H' v d
  | _, _, .non => .non
  | _, _, .bl b => .bl b
  | _, _, .int i => .int i
  | _, _, .str x => .str x
  | _, _, .lst e r => .lst (s _ _ e) (DdAll.same s r)
  | _, _, .tup e r => .tup (s _ _ e) (DdAll.same s r)
  | _, _, .dic e r => .dic (s _ _ e) (DdAll.same s r)
theorem DdAll.same {H H' : Hp} (s : Same H H') : ∀ {vs : List V} {ds : List PyData}, DdAll H vs ds → DdAll H' vs ds
  | _, _, .nil => .nil
  | _, _, .cons a b => .cons (Dd.same s a) (DdAll.same s b)
end

section
variable {X : Cx} {pins : List (Addr × Obj)} {σ : L2.St} {H : Hp} {s : Shared}
theorem key_read {P : Program} {w : World} {h : Heap} {k : Key} {v : Value} (e : (mixKind P w).is k v = true) : Reads h v (kD k) [] := by
  rcases keyIs_shape (show keyIs k v = true from e) with ⟨i, t, rfl, rfl⟩ | ⟨x, t, rfl, rfl⟩
  · exact .int i t
  · exact .str x t
theorem pairs_read {P : Program} {w : World} {h : Heap} : ∀ {es : List DictEntry} {vs : List (Key × Value)} {kvs : List (Key × V)},
    Pairs (mixKind P w) es vs → KV kvs vs →
    ReadsAll h (es.map (·.key)) (kvs.map fun p => kD p.1) [] ∧ es.map (·.val) = vs.map (·.2) ∧ Vals (kvs.map (·.2)) (vs.map (·.2))
  | _, _, _, .nil, .nil => ⟨.nil, rfl, .nil⟩
  | _, _, _, .cons h1 h2 t, .cons r rt => by
    obtain ⟨a, b, c⟩ := pairs_read (h := h) t rt
    refine ⟨?_, ?_, .cons r.2 c⟩
    · rw [← r.1] at h1
      exact ReadsAll.cons (key_read h1) a
    · rw [List.map_cons, List.map_cons, b, h2]
theorem zip_fst {α β : Type} {xs : List α} {ys : List β} (h : xs.length = ys.length) : (xs.zip ys).map (·.1) = xs := by
  rw [show (fun x : α × β => x.1) = Prod.fst from rfl]
  exact List.map_fst_zip (Nat.le_of_eq h)
theorem zip_snd {α β : Type} {xs : List α} {ys : List β} (h : xs.length = ys.length) : (xs.zip ys).map (·.2) = ys := by
  rw [show (fun x : α × β => x.2) = Prod.snd from rfl]
  exact List.map_snd_zip (Nat.le_of_eq h.symm)
theorem not_sys {a : Addr} {o : Obj} {vs : Array Value} {n : Nat} (sys : SysD X.base) (I : L2.Inv X pins σ H s) (h : s.heap.get? a = some o) (hc : o.data = .seq vs n) : sysModules ≠ a := by
  rintro rfl
  obtain ⟨mm, u, es, ep, hu, du, _⟩ := sys
  have := I.bk _ _ hu
  rw [h] at this
  cases this
  rw [hc] at du
  cases du
mutual
theorem Dd.reads (sys : SysD X.base) (I : Inv X pins σ H s) : ∀ {v : V} {d : PyData}, Dd H v d → ∀ {u : Value}, RelV v u → ∃ as, Reads s.heap u d as ∧ sysModules ∉ as
  | _, _, .non, _, r => by cases r; exact ⟨_, .none, List.not_mem_nil⟩
  | _, _, .bl b, _, r => by cases r; exact ⟨_, .bool b, List.not_mem_nil⟩
  | _, _, .int i, _, r => by obtain ⟨t, rfl⟩ := r; exact ⟨_, .int i t, List.not_mem_nil⟩
  | _, _, .str x, _, r => by obtain ⟨t, rfl⟩ := r; exact ⟨_, .str x t, List.not_mem_nil⟩
  | _, _, .lst e h, _, r => by
    cases r
    obtain ⟨_, its, n, rv, ho⟩ := I.hok _ _ e
    obtain ⟨as, q, ns⟩ := DdAll.reads sys I h rv
    refine ⟨_, Reads.list ho rfl rfl q, ?_⟩
    intro z
    rcases List.mem_cons.mp z with z | z
    · exact not_sys sys I ho rfl z
    · exact ns z
  | _, _, .tup e h, _, r => by
    cases r
    obtain ⟨_, its, rv, o, ho, hc, n, hd⟩ := I.hok _ _ e
    obtain ⟨as, q, ns⟩ := DdAll.reads sys I h rv
    exact ⟨_, Reads.tuple ho hc hd q, ns⟩
  | _, _, .dic (kvs := kvs) (ds := ds) e h, _, r => by
    cases r
    obtain ⟨_, hne, vs, kv, o, es, ep, ho, hx, hd, _, hp, _⟩ := I.hok _ _ e
    obtain ⟨rk, hv, rvs⟩ := pairs_read (h := s.heap) hp kv
    obtain ⟨bs, q, ns⟩ := DdAll.reads sys I h rvs
    have hl : (kvs.map fun p => kD p.1).length = ds.length := by
      rw [h.length, List.length_map, List.length_map]
    refine ⟨_, Reads.dict (as := []) (bs := bs) ho hx.1 hd ?_ ?_, ?_⟩
    · rw [zip_fst hl]; exact rk
    · rw [zip_snd hl, hv]; exact q
    · intro z
      rcases List.mem_cons.mp (show sysModules ∈ _ :: bs from z) with z | z
      · rw [z] at hne
        simp at hne
      · exact ns z
theorem DdAll.reads (sys : SysD X.base) (I : Inv X pins σ H s) : ∀ {vs : List V} {ds : List PyData}, DdAll H vs ds → ∀ {us : List Value}, Vals vs us → ∃ as, ReadsAll s.heap us ds as ∧ sysModules ∉ as
  | _, _, .nil, _, r => by cases r; exact ⟨_, .nil, List.not_mem_nil⟩
  | _, _, .cons a b, _, r => by
    cases r with
    | cons r1 r2 =>
      obtain ⟨as, q1, n1⟩ := Dd.reads sys I a r1
      obtain ⟨bs, q2, n2⟩ := DdAll.reads sys I b r2
      refine ⟨_, .cons q1 q2, ?_⟩
      intro z
      rcases List.mem_append.mp z with z | z
      · exact n1 z
      · exact n2 z
end
/-- repr(x) -/
theorem call_repr (gd : X.A.guards = some []) (hu : X.A.units + 100 < cLine) (sys : SysD X.base) :
    CallR X (.builtin "repr") (fun xs H Q => ∃ x d, xs = [x] ∧ Dd H x d ∧ d.showable = true ∧ d.depth ≤ 60 ∧ d.shown.length ≤ sizeLine ∧ Q (.str d.shown) H) := by
  rintro pins s σ H xs us Q I r ⟨x, d, rfl, hd, hs, hdep, hz, q⟩
  obtain ⟨u, rfl, r1⟩ := vals1 r
  have fin : ∀ h' v tk, (∀ b o, s.heap.get? b = some o → h'.get? b = some o) →
      EP X pins σ Q (.str d.shown v) { s with heap := h', toks := tk } := fun h' v tk hk => ⟨.str d.shown, H, I.kept hk, ⟨v, rfl⟩, q⟩
  obtain ⟨as, rd, ns⟩ := Dd.reads sys I hd r1
  cases rd with
  | none => exact PySem.P.repr_of_none (fin s.heap s.toks (s.toks + 1) fun _ _ e => e)
  | bool b => exact PySem.P.repr_of_bool (fin s.heap s.toks (s.toks + 1) fun _ _ e => e)
  | int i t => exact PySem.P.repr_of_int (of_decide_eq_true hs) (fin s.heap s.toks (s.toks + 1) fun _ _ e => e)
  | str z t => exact PySem.P.repr_of_str (fin s.heap s.toks (s.toks + 1) fun _ _ e => e) hz
  | list h1 h2 h3 h4 => exact repr_of_reads' (.list h1 h2 h3 h4) hs (fun _ => ns) gd (by omega) (fun _ _ e => e) fin hz
  | tuple h1 h2 h3 h4 => exact repr_of_reads' (.tuple h1 h2 h3 h4) hs (fun _ => ns) gd (by omega) (fun _ _ e => e) fin hz
  | dict h1 h2 h3 h4 h5 => exact repr_of_reads' (.dict h1 h2 h3 h4 h5) hs (fun _ => ns) gd (by omega) (fun _ _ e => e) fin hz
end
end MG

namespace MG
open PySem PySem.Spec PyProof.Rows L2

/-- v is data in H: at most n deep, its repr at most c signs -/
def Da (H : Hp) (n c : Nat) (v : V) : Prop := ∃ d, Dd H v d ∧ d.showable = true ∧ d.depth ≤ n ∧ d.shown.length ≤ c
theorem int_len {i : Int} {k : Nat} (hk : 0 < k) (h : i.natAbs < 2 ^ k) : (Str.ofString (toString i)).length ≤ k + 1 := by
  rw [PySem.ofString_length]
  refine int_text_length_le hk ?_
  by_cases h0 : i.natAbs = 0
  · rw [h0]; exact Nat.lt_of_le_of_lt (by decide) hk
  · exact (Nat.log2_lt h0).mpr h
theorem tupleText_le (ts : List Str) : (tupleText ts).length ≤ piled ts + 3 := by
  unfold tupleText
  rw [strLen_append, strLen_append]
  have h1 : ("(" : Str).length = 1 := rfl
  have h2 : (Str.ofString (if (ts.length == 1) = true then ",)" else ")")).length ≤ 2 := by
    cases ts.length == 1 <;> decide +kernel
  have h3 : (Str.join ", " ts).length ≤ piled ts := by
    cases ts with
    | nil => decide +kernel
    | cons t r =>
      have := join_length_add (t :: r) (List.cons_ne_nil _ _)
      omega
  have h4 : ((if (ts.length == 1) = true then ",)" else ")" : String) : Str).length ≤ 2 := h2
  omega
end MG

namespace MG
open PySem PySem.Spec PyProof.Rows L2

/-! ### f(a=.., b=..): every parameter by its name, in the def's order -/
def KB (K : PySem.W.Frag) (fd : FuncData) (ps : List Str) : Prop :=
  ∀ (s : Shared) (us : List Value), K.In s.heap → us.length = ps.length → BindsTo s fd ⟨[], ps.zip us⟩ (ps.zip us)
def tCallN (sp : Sp) (E : XK) (tk : TA) : TE := fun σ H Q => tk σ H fun zs H2 => sp zs H2 Q E
/-! ### isinstance of data -/
def tyN : PyData → String
  | .none => "NoneType"
  | .bool _ => "bool"
  | .int _ => "int"
  | .str _ => "str"
  | .list _ => "list"
  | .tuple _ => "tuple"
  | .dict _ => "dict"
theorem Dd.ty {K : PySem.W.Frag} {H : Hp} {v : V} {d : PyData} (h : Dd H v d) : TyX K H v (.type (tyN d)) := by
  cases h with
  | non => exact .base .non
  | bl b => exact .base (.bl b)
  | int i => exact .base (.int i)
  | str x => exact .base (.str x)
  | lst e _ => exact .base (.lst e)
  | tup e _ => exact .base (.tup e)
  | dic e _ => exact .base (.dK e)
def isIntD : PyData → Bool
  | .int _ | .bool _ => true
  | _ => false
def isBoolD : PyData → Bool
  | .bool _ => true
  | _ => false
def isTupD : PyData → Bool
  | .tuple _ => true
  | _ => false
theorem kit_int (K : PySem.W.Frag) (d : PyData) : PySem.W.kitOne K (.type (tyN d)) (.type "int") = some (isIntD d) := by
  cases d with
  | none => exact kit_ty (a := "NoneType") (b := "int") (r := false) (by decide +kernel)
  | bool _ => exact kit_ty (a := "bool") (b := "int") (r := true) (by decide +kernel)
  | int _ => exact kit_ty (a := "int") (b := "int") (r := true) (by decide +kernel)
  | str _ => exact kit_ty (a := "str") (b := "int") (r := false) (by decide +kernel)
  | list _ => exact kit_ty (a := "list") (b := "int") (r := false) (by decide +kernel)
  | tuple _ => exact kit_ty (a := "tuple") (b := "int") (r := false) (by decide +kernel)
  | dict _ => exact kit_ty (a := "dict") (b := "int") (r := false) (by decide +kernel)
theorem kit_bool (K : PySem.W.Frag) (d : PyData) : PySem.W.kitOne K (.type (tyN d)) (.type "bool") = some (isBoolD d) := by
  cases d with
  | none => exact kit_ty (a := "NoneType") (b := "bool") (r := false) (by decide +kernel)
  | bool _ => exact kit_ty (a := "bool") (b := "bool") (r := true) (by decide +kernel)
  | int _ => exact kit_ty (a := "int") (b := "bool") (r := false) (by decide +kernel)
  | str _ => exact kit_ty (a := "str") (b := "bool") (r := false) (by decide +kernel)
  | list _ => exact kit_ty (a := "list") (b := "bool") (r := false) (by decide +kernel)
  | tuple _ => exact kit_ty (a := "tuple") (b := "bool") (r := false) (by decide +kernel)
  | dict _ => exact kit_ty (a := "dict") (b := "bool") (r := false) (by decide +kernel)
theorem kit_tuple (K : PySem.W.Frag) (d : PyData) : PySem.W.kitOne K (.type (tyN d)) (.type "tuple") = some (isTupD d) := by
  cases d with
  | none => exact kit_ty (a := "NoneType") (b := "tuple") (r := false) (by decide +kernel)
  | bool _ => exact kit_ty (a := "bool") (b := "tuple") (r := false) (by decide +kernel)
  | int _ => exact kit_ty (a := "int") (b := "tuple") (r := false) (by decide +kernel)
  | str _ => exact kit_ty (a := "str") (b := "tuple") (r := false) (by decide +kernel)
  | list _ => exact kit_ty (a := "list") (b := "tuple") (r := false) (by decide +kernel)
  | tuple _ => exact kit_ty (a := "tuple") (b := "tuple") (r := true) (by decide +kernel)
  | dict _ => exact kit_ty (a := "dict") (b := "tuple") (r := false) (by decide +kernel)
end MG

/-! MG: twos, greatest common parts -/
namespace MG
open PySem

/-- how often 2 parts n (0 of 0) -/
def v2 (n : Nat) : Nat := if h : n = 0 then 0 else if n % 2 = 1 then 0 else v2 (n / 2) + 1
termination_by n
decreasing_by omega
/-- the greatest number that parts all -/
def gl : List Int → Nat
  | [] => 0
  | n :: r => Nat.gcd n.toNat (gl r)
/-- how many are parted by 2 no oftener than t -/
def fewT (t : Nat) (l : List Int) : List Int := l.filter fun n => decide (n > 0) && decide (v2 n.toNat ≤ t)
end MG

/-! MG: runs of two, by doubling by rests -/
namespace MG
/-- both parted by the greatest number that parts each -/
def shares (a b : Nat) : Nat := (a + b) / Nat.gcd a b
def due (a b : Nat) : Option Nat := if shares a b / 2 ^ v2 (shares a b) > 1 then none else some (v2 (shares a b))
section
variable {a b : Nat} (ha : 0 < a) (hb : 0 < b)
include ha hb
end
end MG

namespace K61
open PySem PySem.Spec PyProof.Rows L2 MG
def topS (i : Nat) : Stmt := PySem.Challenge.pw_matchgift_k61_texts_changed_anywhere.main.body.getD i (.Pass ⟨0, 0, 0, 0⟩)
abbrev sBox : Stmt := topS 26
abbrev sTake : Stmt := topS 27
abbrev sOf : Stmt := topS 28
abbrev sWhole : Stmt := topS 13
theorem same_upd {H : Hp} {p : Addr} {o : HO} (h : H p = none) : Same H (upd H p o) := fun b x e => by
  rw [upd_ne (ne_of_none e h)]
  exact e
theorem scBox : FnScope ["_law_script", "_law_k", "_law_cell", "_law_own"] ["_law_script", "_law_k"] (defScope sBox) := ⟨rfl, rfl, rfl, by decide +kernel, rfl, by decide +kernel, by decide +kernel⟩
theorem scTake : FnScope ["_law_box_here", "_law_many", "_law_digit", "_law_mixed"] ["_law_box_here", "_law_many"] (defScope sTake) := ⟨rfl, rfl, rfl, by decide +kernel, rfl, by decide +kernel, by decide +kernel⟩
theorem scOf : FnScope ["_law_box_here", "_law_some"] ["_law_box_here", "_law_some"] (defScope sOf) := ⟨rfl, rfl, rfl, by decide +kernel, rfl, by decide +kernel, by decide +kernel⟩

def Box (H : Hp) (b : Addr) (n : Nat) : Prop := ∃ o m c : Int, H b = some (.lst [.int o, .int m, .int c]) ∧ 0 ≤ o ∧ o < 10 ^ 240 ∧ 0 ≤ m ∧ m < 2305843009213693921 ∧ 0 ≤ c ∧ c ≤ n
theorem Box.le {H : Hp} {b : Addr} {n n' : Nat} (h : Box H b n) (hn : n ≤ n') : Box H b n' := by
  obtain ⟨o, m, c, e, h1, h2, h3, h4, h5, h6⟩ := h
  exact ⟨o, m, c, e, h1, h2, h3, h4, h5, by omega⟩

theorem bit (b : Bool) : (-(2 ^ 64) : Int) < (if b = true then 1 else 0) ∧ (if b = true then (1 : Int) else 0) < 2 ^ 64 := by
  cases b <;> decide
theorem modb (x : Int) : (-(2 ^ 64) : Int) < x % 2305843009213693921 ∧ x % 2305843009213693921 < 2 ^ 64 := by
  have h1 := Int.emod_nonneg x (show (2305843009213693921 : Int) ≠ 0 by decide)
  have h2 := Int.emod_lt_of_pos x (show (0 : Int) < 2305843009213693921 by decide)
  omega
theorem own0 (x : Int) (b : Bool) : 0 ≤ x % 10 ^ 240 * (if b = true then 1 else 0) := by
  have := Int.emod_nonneg x (show (10 : Int) ^ 240 ≠ 0 by decide)
  cases b with
  | false => rw [if_neg Bool.false_ne_true]; omega
  | true => rw [if_pos rfl]; omega
theorem own1 (x : Int) (b : Bool) : x % 10 ^ 240 * (if b = true then 1 else 0) < 10 ^ 240 := by
  have := Int.emod_lt_of_pos x (show (0 : Int) < 10 ^ 240 by decide)
  cases b with
  | false => rw [if_neg Bool.false_ne_true, Int.mul_zero]; decide
  | true => rw [if_pos rfl, Int.mul_one]; exact this
section
variable {P : Program} {w : World} {K : PySem.W.Frag} {mg : Str → Option Value} {base : Heap}
def spBox (K : PySem.W.Frag) : Sp := fun vs H Q _ => ∃ (a : Addr) (ns : List Int) (k : Int), vs = [.ref a, .int k] ∧ SqL K H a (ns.map V.int) ∧ 0 ≤ k ∧ k ≤ 63 ∧
  ∀ p H', H p = none → Same H H' → Box H' p 0 → (∀ a, a ≠ p → H' a = H a) → Q (.ref p) H'
theorem ok_box {f : Addr} {fd : FuncData} {k : Nat} (F : Fun K "_law_box" "_law_box" sBox f fd) (ml : mg "len" = none) (mab : mg "abs" = none) (mI : mg "int" = none) :
    FnOk P w K mg base CX0 (k + 1) f fd ["_law_script", "_law_k"] (spBox K) := by
  refine F.ok scBox (fun vs H Q E h => ?_) (fun cdv A outer s H vs Q E hr h => ?_)
  · obtain ⟨a, ns, k, rfl, _⟩ := h
    rfl
  · obtain ⟨a, ns, k, rfl, hS, k0, k1, q⟩ := h
    refine ⟨_, pss_cons (ps_set (i := 2) scBox.nd rfl (.inl rfl) (pe_ifExp
          (pt_cmpR op_lt (pv 1) (pe_callB call_len_seq (by rfl) ml PySem.boot_len (pa_cons (pv 0) pa_nil)) (nomark _))
          (pe_ix ix_list (pv 0) (pv 1) (fun _ _ => rfl)) pe_int))
      (pss_cons (ps_set (i := 3) scBox.nd rfl (.inl rfl) (pe_op op_mul
          (pe_op op_mod (pe_callB call_abs (by rfl) mab (by decide +kernel) (pa_cons (pv 2) pa_nil))
            (pe_op op_mulW (pe_op op_mulW (pe_op op_mulW (pe_op op_pow pe_int pe_int) (pe_op op_pow pe_int pe_int)) (pe_op op_pow pe_int pe_int)) (pe_op op_pow pe_int pe_int)))
          (pe_callTy call_int1 (by rfl) mI (by decide +kernel) (pa_cons (pe_cmpR op_ge (pe_callB call_abs (by rfl) mab (by decide +kernel) (pa_cons (pv 2) pa_nil)) (pe_op op_pow pe_int pe_int) (nomark _)) pa_nil))))
      (pss_one (ps_ret (pe_lst (pa_cons (pv 3) (pa_cons
          (pe_op op_mod (pe_op op_mul (pe_op op_add (pe_op op_add (pe_op op_mod (pv 2) pe_int) (pe_op op_mul (pe_op op_mul pe_int (pv 1)) (pv 1))) pe_int) pe_int) pe_int)
          (pa_cons pe_int pa_nil))))))), ?_⟩
    have fin : ∀ o : Int, 0 ≤ o → o < 10 ^ 240 → ∀ m : Int, 0 ≤ m → m < 2305843009213693921 → ∀ p, H p = none → Q (.ref p) (upd H p (.lst [.int o, .int m, .int 0])) := by
      intro o o0 o1 m m0 m1 p hp
      refine q p _ hp (same_upd hp) ⟨o, m, 0, upd_same, o0, o1, m0, m1, by omega, by omega⟩ ?_
      intro a ha
      exact upd_ne ha
    have kk : (-(2 ^ 64) : Int) < k ∧ k < 2 ^ 64 := ⟨by omega, by omega⟩
    have w1 : CMulW ((10 : Int) ^ (60 : Int).toNat) (10 ^ (60 : Int).toNat) := by unfold CMulW; decide +kernel
    have w2 : CMulW ((10 : Int) ^ (60 : Int).toNat * 10 ^ (60 : Int).toNat) (10 ^ (60 : Int).toNat) := by unfold CMulW; decide +kernel
    have w3 : CMulW ((10 : Int) ^ (60 : Int).toNat * 10 ^ (60 : Int).toNat * 10 ^ (60 : Int).toNat) (10 ^ (60 : Int).toNat) := by unfold CMulW; decide +kernel
    have cp : CPow 10 60 := ⟨by decide, by decide, by decide⟩
    have cq : CPow 10 18 := ⟨by decide, by decide, by decide⟩
    have pos : (0 : Int) < 10 ^ (60 : Int).toNat * 10 ^ (60 : Int).toNat * 10 ^ (60 : Int).toNat * 10 ^ (60 : Int).toNat := by decide +kernel
    have emod : (10 : Int) ^ (60 : Int).toNat * 10 ^ (60 : Int).toNat * 10 ^ (60 : Int).toNat * 10 ^ (60 : Int).toNat = 10 ^ 240 := by decide +kernel
    refine ⟨_, rfl, .ref a, rfl, a, _, rfl, .inl hS, _, _, rfl, rfl, _, rfl, ite2 (fun hk => ?_) (fun hk => ?_)⟩
    · have hk' := of_decide_eq_true hk
      rw [List.length_map] at hk'
      obtain ⟨j, rfl⟩ : ∃ j : Nat, k = (j : Int) := ⟨k.toNat, by omega⟩
      have hj : j < ns.length := by omega
      refine ⟨.ref a, rfl, _, rfl, a, _, (j : Int), .int ns[j], rfl, rfl, hS, atI_nat (by rw [List.getElem?_map, List.getElem?_eq_getElem hj]; rfl), ?_⟩
      generalize ns[j] = cell
      refine ⟨.int cell, rfl, cell, rfl, 10, 60, rfl, rfl, cp, 10, 60, rfl, rfl, cp, _, _, rfl, rfl, w1, 10, 60, rfl, rfl, cp, _, _, rfl, rfl, w2, 10, 60, rfl, rfl, cp, _, _, rfl, rfl, w3, _, _, rfl, rfl, pos, ?_⟩
      refine ⟨.int cell, rfl, cell, rfl, 10, 18, rfl, rfl, cq, _, _, rfl, rfl, .inr ⟨_, rfl, _, _, rfl, rfl, .inr (bit _), ?_⟩⟩
      refine ⟨_, rfl, _, rfl, cell, 2305843009213693951, rfl, rfl, (by show (0 : Int) < 2305843009213693951; decide), _, rfl, 7919, (j : Int), rfl, rfl, .inl ⟨by decide, by decide⟩, _, rfl, _, (j : Int), rfl, rfl, .inr kk, _, _, rfl, rfl, _, 43, rfl, rfl, _, 48271, rfl, rfl, .inr ⟨by decide, by decide⟩, _, _, rfl, rfl, (by show (0 : Int) < 2305843009213693921; decide), ?_⟩
      refine ⟨by show 3 ≤ sizeLine; decide, ?_⟩
      rw [emod]
      exact fin _ (own0 _ _) (own1 _ _) _ (Int.emod_nonneg _ (by decide)) (Int.emod_lt_of_pos _ (by decide))
    · skip
      refine ⟨.int 0, rfl, 0, rfl, 10, 60, rfl, rfl, cp, 10, 60, rfl, rfl, cp, _, _, rfl, rfl, w1, 10, 60, rfl, rfl, cp, _, _, rfl, rfl, w2, 10, 60, rfl, rfl, cp, _, _, rfl, rfl, w3, _, _, rfl, rfl, pos, ?_⟩
      refine ⟨.int 0, rfl, 0, rfl, 10, 18, rfl, rfl, cq, _, _, rfl, rfl, .inr ⟨_, rfl, _, _, rfl, rfl, .inr (bit _), ?_⟩⟩
      refine ⟨_, rfl, _, rfl, 0, 2305843009213693951, rfl, rfl, (by show (0 : Int) < 2305843009213693951; decide), _, rfl, 7919, k, rfl, rfl, .inl ⟨by decide, by decide⟩, _, rfl, _, k, rfl, rfl, .inr kk, _, _, rfl, rfl, _, 43, rfl, rfl, _, 48271, rfl, rfl, .inr ⟨by decide, by decide⟩, _, _, rfl, rfl, (by show (0 : Int) < 2305843009213693921; decide), ?_⟩
      refine ⟨by show 3 ≤ sizeLine; decide, ?_⟩
      rw [emod]
      exact fin _ (own0 _ _) (own1 _ _) _ (Int.emod_nonneg _ (by decide)) (Int.emod_lt_of_pos _ (by decide))

def spTake : Sp := fun vs H Q _ => ∃ b many n, vs = [.ref b, .int many] ∧ Box H b n ∧ n ≤ 1000000 ∧ 1 ≤ many ∧ many ≤ 10 ^ 40 ∧
  ∀ r H', 0 ≤ r → r < many → Box H' b (n + 1) → (∀ a, a ≠ b → H' a = H a) → Q (.int r) H'
theorem ok_take {f : Addr} {fd : FuncData} {k : Nat} (F : Fun K "_law_take" "_law_take" sTake f fd) :
    FnOk P w K mg base CX0 (k + 1) f fd ["_law_box_here", "_law_many"] spTake := by
  refine F.ok scTake (fun vs H Q E h => ?_) (fun cdv A outer s H vs Q E hr h => ?_)
  · obtain ⟨b, many, n, rfl, _⟩ := h
    rfl
  · obtain ⟨b, many, n, rfl, ⟨o, m, c, e, h1, h2, h3, h4, h5, h6⟩, hn, m1, m2, q⟩ := h
    refine ⟨_, pss_cons (ps_if (pt_cmpR op_gt (pe_ix ix_list (pv 0) pe_int (fun _ _ => rfl)) pe_int (nomark _))
        (pss_cons (ps_set (i := 2) scTake.nd rfl (.inl rfl) (pe_op op_mod (pe_ix ix_list (pv 0) pe_int (fun _ _ => rfl)) (pv 1)))
        (pss_cons (ps_asg (pe_op op_fdivW (pe_ix ix_list (pv 0) pe_int (fun _ _ => rfl)) (pv 1)) (pg_sub (pv 0) pe_int set_list))
        (pss_one (ps_ret (pv 2))))) pss_nil)
      (pss_cons (ps_asg (pe_op op_add (pe_ix ix_list (pv 0) pe_int (fun _ _ => rfl)) pe_int) (pg_sub (pv 0) pe_int set_list))
      (pss_cons (ps_set (i := 3) scTake.nd rfl (.inl rfl) (pe_op op_mod (pe_op op_mul
          (pe_op op_add (pe_op op_add (pe_ix ix_list (pv 0) pe_int (fun _ _ => rfl)) (pe_op op_mul (pe_op op_mul pe_int (pe_ix ix_list (pv 0) pe_int (fun _ _ => rfl))) (pe_ix ix_list (pv 0) pe_int (fun _ _ => rfl)))) pe_int) pe_int) pe_int))
      (pss_cons (ps_set (i := 3) scTake.nd rfl (.inl rfl) (pe_op op_mod (pe_op op_mul (pv 3)
          (pe_op op_add (pe_op op_mod (pv 3) pe_int) (pe_op op_mul pe_int (pe_ix ix_list (pv 0) pe_int (fun _ _ => rfl))))) pe_int))
      (pss_one (ps_ret (pe_op op_mod (pe_op op_add (pe_op op_fdiv (pv 3) pe_int) (pe_op op_fdiv (pv 3) pe_int)) (pv 1))))))), ?_⟩
    have hdiv : CDivW o many := wide_div (b := 200) (by omega) (by omega) (by decide) (by decide)
    have hmany : (fun (_ j : Int) => 0 < j) o many := show 0 < many by omega
    refine ⟨.ref b, rfl, b, _, 0, .int o, rfl, rfl, SqL.of e, atI_nat (j := 0) rfl, o, 0, rfl, rfl, _, rfl, ite2 (fun ho => ?_) (fun ho => ?_)⟩
    · refine ⟨.ref b, rfl, b, _, 0, .int o, rfl, rfl, SqL.of e, atI_nat (j := 0) rfl, _, rfl, o, many, rfl, rfl, hmany, ?_⟩
      refine ⟨.ref b, rfl, b, _, 0, .int o, rfl, rfl, SqL.of e, atI_nat (j := 0) rfl, _, rfl, o, many, rfl, rfl, hdiv, .ref b, rfl, b, _, 0, 0, rfl, rfl, e, rfl, ?_⟩
      refine ⟨_, rfl, ?_⟩
      refine q _ _ (Int.emod_nonneg _ (by omega)) (Int.emod_lt_of_pos _ (by omega)) ⟨o / many, m, c, upd_same, ?_, ?_, h3, h4, h5, by omega⟩ ?_
      · exact Int.ediv_nonneg h1 (by omega)
      · exact Int.lt_of_le_of_lt (Int.ediv_le_self _ h1) h2
      · intro a ha
        exact upd_ne ha
    · have hc1 : (-(2 ^ 64) : Int) < c + 1 ∧ c + 1 < 2 ^ 64 := ⟨by omega, by omega⟩
      refine ⟨.ref b, rfl, b, _, 2, .int c, rfl, rfl, SqL.of e, atI_nat (j := 2) rfl, c, 1, rfl, rfl, .ref b, rfl, b, _, 2, 2, rfl, rfl, e, rfl, ?_⟩
      generalize hH : upd H b (HO.lst (List.set [V.int o, V.int m, V.int c] 2 (V.int (c + 1)))) = H2
      have e2 : H2 b = some (.lst [.int o, .int m, .int (c + 1)]) := by rw [← hH]; exact upd_same
      have off : ∀ a, a ≠ b → H2 a = H a := fun a ha => by rw [← hH]; exact upd_ne ha
      refine ⟨.ref b, rfl, b, _, 1, .int m, rfl, rfl, SqL.of e2, atI_nat (j := 1) rfl, .ref b, rfl, b, _, 2, .int (c + 1), rfl, rfl, SqL.of e2, atI_nat (j := 2) rfl, 65537, c + 1, rfl, rfl, .inr hc1, .ref b, rfl, b, _, 2, .int (c + 1), rfl, rfl, SqL.of e2, atI_nat (j := 2) rfl, _, c + 1, rfl, rfl, .inr hc1, m, _, rfl, rfl, _, 11, rfl, rfl, _, 48271, rfl, rfl, .inr ⟨by decide, by decide⟩, _, _, rfl, rfl, (by show (0 : Int) < 2305843009213693921; decide), ?_⟩
      refine ⟨_, rfl, _, rfl, _, 1000003, rfl, rfl, (by show (0 : Int) < 1000003; decide), .ref b, rfl, b, _, 2, .int (c + 1), rfl, rfl, SqL.of e2, atI_nat (j := 2) rfl, 99991, c + 1, rfl, rfl, .inr hc1, _, _, rfl, rfl, _, _, rfl, rfl, .inl (modb _), _, _, rfl, rfl, (by show (0 : Int) < 2305843009213693907; decide), ?_⟩
      refine ⟨_, rfl, _, 97, rfl, rfl, ⟨by decide, by decide⟩, _, rfl, _, 1000033, rfl, rfl, ⟨by decide, by decide⟩, _, _, rfl, rfl, .int many, rfl, _, many, rfl, rfl, (by show (0 : Int) < many; omega), ?_⟩
      refine q _ _ (Int.emod_nonneg _ (by omega)) (Int.emod_lt_of_pos _ (by omega)) ⟨o, m, c + 1, e2, h1, h2, h3, h4, by omega, by omega⟩ off

def spOf : Sp := fun vs H Q _ => ∃ b l n xs, vs = [.ref b, .ref l] ∧ Box H b n ∧ n ≤ 1000000 ∧ H l = some (.lst xs) ∧ b ≠ l ∧ 1 ≤ xs.length ∧ xs.length ≤ 1000 ∧
  ∀ x H', x ∈ xs → Box H' b (n + 1) → (∀ a, a ≠ b → H' a = H a) → Q x H'
theorem ok_of {f fT : Addr} {fd fdT : FuncData} {k : Nat} (F : Fun K "_law_of" "_law_of" sOf f fd) (FT : Fun K "_law_take" "_law_take" sTake fT fdT) (bT : Binds K fdT ["_law_box_here", "_law_many"] [])
    (gT : mg "_law_take" = some (.ref fT)) (ml : mg "len" = none) :
    FnOk P w K mg base CX0 (k + 2) f fd ["_law_box_here", "_law_some"] spOf := by
  have GT : FnOk P w K mg base CX0 (k + 1) fT fdT ["_law_box_here", "_law_many"] spTake := ok_take FT
  refine F.ok scOf (fun vs H Q E h => ?_) (fun cdv A outer s H vs Q E hr h => ?_)
  · obtain ⟨b, l, n, xs, rfl, _⟩ := h
    rfl
  · obtain ⟨b, l, n, xs, rfl, hB, hn, hx, ne, l1, l2, q⟩ := h
    refine ⟨_, pss_one (ps_ret (pe_ix ix_list (pv 1) (pe_call GT hr (by rfl) gT FT.kp bT .nil pass0 (pa_cons (pv 0) (pa_cons
      (pe_callB call_len_seq (by rfl) ml PySem.boot_len (pa_cons (pv 1) pa_nil)) pa_nil))) (fun _ _ => rfl))), ?_⟩
    refine ⟨.ref l, rfl, .ref b, rfl, .ref l, rfl, l, xs, rfl, .inl (SqL.of hx), b, (xs.length : Int), n, rfl, hB, hn, by omega, by omega, ?_⟩
    intro r H' r0 r1 hB' hk
    have hxl : H' l = some (.lst xs) := by rw [hk l (Ne.symm ne)]; exact hx
    obtain ⟨j, rfl⟩ : ∃ j : Nat, r = (j : Int) := ⟨r.toNat, by omega⟩
    have hj : j < xs.length := by omega
    exact ⟨l, xs, (j : Int), xs[j], rfl, rfl, SqL.of hxl, atI_nat (List.getElem?_eq_getElem hj), q _ H' (List.getElem_mem hj) hB' hk⟩
end
/-! ### what stays while the box is drawn from -/
def SX (b : Addr) (H H' : Hp) : Prop := ∀ a o, a ≠ b → H a = some o → H' a = some o
theorem SX.refl (b : Addr) (H : Hp) : SX b H H := fun _ _ _ h => h
theorem SX.trans {b : Addr} {H H1 H2 : Hp} (x : SX b H H1) (y : SX b H1 H2) : SX b H H2 := fun a o n h => y a o n (x a o n h)
theorem SX.of_same {b : Addr} {H H' : Hp} (h : Same H H') : SX b H H' := fun a o _ e => h a o e
theorem SX.of_eq {b : Addr} {H H' : Hp} (h : ∀ a, a ≠ b → H' a = H a) : SX b H H' := fun a o n e => by rw [h a n]; exact e
theorem SX.new {b : Addr} {H H' : Hp} {p : Addr} {o : HO} (x : SX b H H') (hp : H' p = none) : SX b H (upd H' p o) := x.trans (.of_same (same_upd hp))
theorem SX.free {b p : Addr} {H H' : Hp} {n : Nat} (x : SX b H H') (hB : Box H' b n) (h : H' p = none) : H p = none := by
  cases e : H p with
  | none => rfl
  | some o =>
    by_cases hb : p = b
    · subst hb
      obtain ⟨_, _, _, z, _⟩ := hB
      rw [h] at z
      cases z
    · rw [x p o hb e] at h
      cases h
theorem Box.at {H H' : Hp} {b : Addr} {n : Nat} (h : Box H b n) (e : H' b = H b) : Box H' b n := by
  obtain ⟨o, m, c, z, r⟩ := h
  exact ⟨o, m, c, by rw [e]; exact z, r⟩
theorem Box.new {H : Hp} {b p : Addr} {n : Nat} {o : HO} (h : Box H b n) (hp : H p = none) : Box (upd H p o) b n := by
  obtain ⟨_, _, _, z, _⟩ := id h
  exact h.at (upd_ne (ne_of_none z hp))
theorem scWhole : FnScope ["thing"] ["thing"] (defScope sWhole) := ⟨rfl, rfl, rfl, by decide +kernel, rfl, by decide +kernel, by decide +kernel⟩
theorem Box.get {H : Hp} {b : Addr} {n : Nat} (h : Box H b n) : ∃ o, H b = Option.some o := by
  obtain ⟨_, _, _, z, _⟩ := h
  exact ⟨_, z⟩
/-- a change of what is new -/
theorem SX.set {b p : Addr} {H H' : Hp} {o : HO} (x : SX b H H') (hp : H p = none) : SX b H (upd H' p o) := fun a u na e => by
  rw [upd_ne (ne_of_none e hp)]
  exact x a u na e
theorem Box.set {H : Hp} {b p : Addr} {n : Nat} {o : HO} (h : Box H b n) (hp : b ≠ p) : Box (upd H p o) b n := h.at (upd_ne hp)
def wholeD : PyData → Bool
  | .int _ => true
  | _ => false
section
variable {P : Program} {w : World} {K : PySem.W.Frag} {mg : Str → Option Value} {base : Heap}
def spWhole : Sp := fun vs H Q _ => ∃ x d, vs = [x] ∧ Dd H x d ∧ Q (.bl (wholeD d)) H
theorem ok_whole {f : Addr} {fd : FuncData} {k : Nat} (F : Fun K "is_whole" "is_whole" sWhole f fd) (mi : mg "isinstance" = none) (mI : mg "int" = none) (mB : mg "bool" = none) :
    FnOk P w K mg base CX0 (k + 1) f fd ["thing"] spWhole := by
  refine F.ok scWhole (fun vs H Q E h => ?_) (fun cdv A outer s H vs Q E hr h => ?_)
  · obtain ⟨x, d, rfl, _⟩ := h
    rfl
  · obtain ⟨x, d, rfl, hd, q⟩ := h
    refine ⟨_, pss_one (ps_ret (pe_and
      (pe_callB call_isi (by rfl) mi (by decide +kernel) (pa_cons (pv 0) (pa_cons (pe_bltn (v := .ty "int") (by rfl) mI (by decide +kernel) rfl) pa_nil)))
      (pe_one (pe_not (pe_callB call_isi (by rfl) mi (by decide +kernel) (pa_cons (pv 0) (pa_cons (pe_bltn (v := .ty "bool") (by rfl) mB (by decide +kernel) rfl) pa_nil))))))), ?_⟩
    refine ⟨x, rfl, x, _, _, _, _, rfl, .ty "int", hd.ty, kit_int _ d, isIntD d, rfl, ?_⟩
    cases hb : isIntD d with
    | false =>
      refine iteF ?_
      have : wholeD d = false := by cases d <;> first | rfl | cases hb
      rw [this] at q
      exact q
    | true =>
      refine iteT ?_
      refine ⟨x, rfl, x, _, _, _, _, rfl, .ty "bool", hd.ty, kit_bool _ d, isBoolD d, rfl, ?_⟩
      have : wholeD d = !isBoolD d := by cases d <;> first | rfl | cases hb
      rw [this] at q
      exact q

end
/-- a statement, a word that holds behind it, the rest -/
def tMid (t u : TS) : TS := fun D σ H => ∃ M : L2.St → Hp → Prop, t { D with nx := M } σ H ∧ ∀ σ1 H1, M σ1 H1 → u D σ1 H1
theorem pss_mid {X : Cx} {st : Stmt} {rest : List Stmt} {t u : TS} (a : PS X st t) (b : PSs X rest u) : PSs X (st :: rest) (tMid t u) := by
  constructor
  rintro pins s σ H D I ⟨M, hm, hu⟩
  refine wpAny_execs_cons (thn (a.run pins s σ H { D with nx := M } I hm) ?_)
  intro fl s1 q
  cases fl with
  | next =>
    obtain ⟨σ1, H1, I1, w⟩ := q
    exact b.run pins s1 σ1 H1 D I1 (hu σ1 H1 w)
  | ret v => exact q
  | brk => exact q
  | cont => exact q

end K61

/-! MG: clauses, zip of tuples in comprehensions, == of rows and of texts -/
namespace MG
open PySem PySem.Spec PyProof.Rows L2
theorem eqvAll_strs : ∀ a b : List Str, PyData.eqvAll (a.map PyData.str) (b.map PyData.str) = decide (a = b)
  | [], [] => rfl
  | [], _ :: _ => rfl
  | _ :: _, [] => rfl
  | x :: a, y :: b => by
    rw [List.map_cons, List.map_cons, PyData.eqvAll, eqvAll_strs a b]
    show ((x == y) && _) = _
    by_cases h : x = y
    · subst h
      rw [show (x == x) = true from beq_self_eq_true x, Bool.true_and]
      by_cases h2 : a = b
      · rw [h2]; simp
      · rw [decide_eq_false h2, decide_eq_false (fun z => h2 (List.cons.inj z).2)]
    · rw [show (x == y) = false from beq_eq_false_iff_ne.mpr h, decide_eq_false (fun z => h (List.cons.inj z).1)]; rfl
theorem dpStrsG {K : PySem.W.Frag} {H : Hp} : ∀ L : List Str, DpAll K H (L.map V.str) (L.map PyData.str)
  | [] => .nil
  | i :: L => .cons (.str i) (dpStrsG L)
theorem lay_strsG : ∀ L : List Str, (∀ x ∈ L, PyData.canLay0 (.str x) = true) → PyData.canLayAll0 (L.map PyData.str) = true
  | [], _ => rfl
  | i :: L, h => by rw [List.map_cons, PyData.canLayAll0, lay_strsG L fun x hx => h x (List.mem_cons_of_mem _ hx), h i List.mem_cons_self]; rfl
theorem depth_strsG : ∀ L : List Str, PyData.depthAll (L.map PyData.str) = 0
  | [] => rfl
  | i :: L => by rw [List.map_cons, PyData.depthAll, depth_strsG L]; rfl
/-! ### those who have something -/
def hold (ns : List Int) (i : Nat) : List Int := ((List.range i).filter fun j => decide (0 < ns.getD j 0)).map fun (j : Nat) => (j : Int)
/-! ### the clauses -/
def hfn (r o : List Int) : Bool := (r.zip o).any fun p => decide (p.1 = 0) && decide (p.2 > 0)
def ms (r : List Int) : Int := (gl r : Nat) / 2 ^ v2 (gl r)
def od (r : List Int) : Nat := (fewT (v2 (gl r)) r).length
def asked (r o : List Int) : List (Str × Bool) :=
  [("sum", decide (o.sum ≠ r.sum)), ("nothing", hfn r o), ("measure", decide (ms o ≠ ms r)), ("twos", decide (v2 (gl o) < v2 (gl r))),
   ("odd ones", decide (v2 (gl o) = v2 (gl r)) && decide (od r < od o)), ("doubled", decide (v2 (gl o) = v2 (gl r)) && decide (od o = (hold o o.length).length))]
def clausesOf (r o : List Int) : List Str := ((asked r o).filter fun p => p.2).map fun p => p.1
def brkT (r o : List Int) : List Str := if r = o then [] else if r.length ≠ o.length then ["places"] else clausesOf r o
def PairsAt (H : Hp) (ts : List Addr) (cs : List (Str × Bool)) : Prop := ts.length = cs.length ∧ ∀ (i : Nat) (t : Addr) (c : Str × Bool), ts[i]? = some t → cs[i]? = some c → H t = some (.tup [.str c.1, .bl c.2])
end MG

/-! MG: comprehensions of two clauses over tuples; deeds -/
namespace MG
open PySem PySem.Spec PyProof.Rows L2
/-! ### a deed -/
def deed (r : List Int) (i j : Nat) : List Int := (r.set i (r.getD i 0 - r.getD j 0)).set j (2 * r.getD j 0)
structure MayG (r : List Int) (i j : Nat) : Prop where
  hi : i < r.length
  hj : j < r.length
  ne : i ≠ j
  pj : 0 < r.getD j 0
  ge : r.getD j 0 ≤ r.getD i 0
/-! ### counts as sums -/
def oddF (t : Nat) (n : Int) : Int := if n % 2 ^ (t + 1) = 0 then 0 else 1
def posF (n : Int) : Int := if 0 < n then 1 else 0
/-! ### what one deed or more leave -/
structure Lv (r o : List Int) : Prop where
  len : o.length = r.length
  sum : o.sum = r.sum
  noth : ∀ p, r.getD p 0 = 0 → o.getD p 0 = 0
  ms : MG.ms o = MG.ms r
  tw : v2 (gl r) ≤ v2 (gl o)
  od : v2 (gl o) = v2 (gl r) → MG.od o ≤ MG.od r
  dbl : v2 (gl o) = v2 (gl r) → MG.od o < (hold o o.length).length
  nn : ∀ n ∈ o, 0 ≤ n
end MG

/-! MG: data of rows, of places and of deeds; lists of pairs in the heap -/
namespace MG
open PySem PySem.Spec PyProof.Rows L2
def wholeD : PyData → Bool
  | .int _ => true
  | _ => false
def hasD (ns : List Int) : PyData → Bool
  | .int p => decide (0 ≤ p) && (decide (p < ns.length) && decide (0 < ns.getD p.toNat 0))
  | _ => false
def twoD (ns : List Int) : PyData → PyData → Bool
  | .int p, .int q => hasD ns (.int p) && (hasD ns (.int q) && decide (p ≠ q))
  | _, _ => false
def giveD (ns : List Int) : PyData → PyData → Bool
  | .int p, .int q => twoD ns (.int p) (.int q) && decide (ns.getD q.toNat 0 ≤ ns.getD p.toNat 0)
  | _, _ => false
/-! ### pairs in the heap -/
def prO (c : Int × Int) : Option HO := some (.tup [.int c.1, .int c.2])
def PrAt (H : Hp) (ts : List Addr) (cs : List (Int × Int)) : Prop := ts.map H = cs.map prO
def prD (c : Int × Int) : PyData := .tuple [.int c.1, .int c.2]
/-! ### all deeds -/
def rowD (ns : List Int) (hs : List Int) (i : Int) : List (Int × Int) := (hs.filter fun j => giveD ns (.int i) (.int j)).map fun j => (i, j)
def dlL (ns hs us : List Int) : List (Int × Int) := us.flatMap (rowD ns hs)
def dl (ns : List Int) : List (Int × Int) := dlL ns (hold ns ns.length) (hold ns ns.length)
end MG

/-! MG: readings of comprehensions that laws use often, for any slots -/
namespace MG
open PySem PySem.Spec PyProof.Rows L2
def cnt (ns : List Int) : Nat := (ns.filter fun n => decide (0 < n)).length
/-! ### lists of rows as data -/
def rowDt (r : List Int) : PyData := .tuple (r.map PyData.int)
/-! ### good rows -/
structure Gd (ns : List Int) : Prop where
  nn : ∀ n ∈ ns, 0 ≤ n
  sum : ns.sum < 2 ^ 200
  len : ns.length ≤ 30
  pos : ∃ n ∈ ns, 0 < n
end MG

namespace K61
open PySem PySem.Spec PyProof.Rows L2 MG
abbrev sRow : Stmt := topS 14
theorem scRow : FnScope ["thing", "amount"] ["thing"] (defScope sRow) := ⟨rfl, rfl, rfl, by decide +kernel, rfl, by decide +kernel, by decide +kernel⟩
def nnD : PyData → Bool
  | .int i => decide (i ≥ 0)
  | _ => false
def sumD : List PyData → Int
  | [] => 0
  | .int i :: r => i + sumD r
  | _ :: r => sumD r
def rowL (ds : List PyData) : Bool := (decide (1 ≤ ds.length) && decide (ds.length ≤ 12)) && (ds.all nnD && (decide (0 < sumD ds) && decide (sumD ds < 10 ^ 30)))
def rowD : PyData → Bool
  | .tuple ds => rowL ds
  | _ => false
theorem DdAll_get {H : Hp} : ∀ {vs : List V} {ds : List PyData}, DdAll H vs ds → ∀ {i : Nat} {x : V}, vs[i]? = some x → ∃ d, ds[i]? = some d ∧ Dd H x d
  | _, _, .nil, _, _, h => by simp at h
  | _, _, .cons a b, 0, _, h => ⟨_, rfl, by cases h; exact a⟩
  | _, _, .cons a b, i + 1, _, h => DdAll_get b h
theorem ints_of {H : Hp} : ∀ {vs : List V} {ds : List PyData}, DdAll H vs ds → ds.all nnD = true →
    ∃ ns : List Int, vs = ns.map V.int ∧ ds = ns.map PyData.int ∧ (∀ n ∈ ns, 0 ≤ n) ∧ sumD ds = ns.sum
  | _, _, .nil, _ => ⟨[], rfl, rfl, fun _ h => absurd h List.not_mem_nil, rfl⟩
  | _, _, .cons a b, h => by
    rw [List.all_cons, Bool.and_eq_true] at h
    obtain ⟨ns, e1, e2, e3, e4⟩ := ints_of b h.2
    cases a with
    | int i =>
      have hi : 0 ≤ i := of_decide_eq_true h.1
      refine ⟨i :: ns, by rw [List.map_cons, e1], by rw [List.map_cons, e2], ?_, ?_⟩
      · intro n hn
        rcases List.mem_cons.mp hn with rfl | hn
        · exact hi
        · exact e3 n hn
      · show i + sumD _ = _
        rw [e4, List.sum_cons]
    | _ => exact absurd h.1 Bool.false_ne_true

section
variable {P : Program} {w : World} {K : PySem.W.Frag} {mg : Str → Option Value} {base : Heap}
def spRow : Sp := fun vs H Q _ => ∃ x d, vs = [x] ∧ Dd H x d ∧ ∀ H', Same H H' → Q (.bl (rowD d)) H'
theorem ok_row {f fW : Addr} {fd fdW : FuncData} {k : Nat} {t1 t2 : Tok} (F : Fun K "is_row" "is_row" sRow f fd) (FW : Fun K "is_whole" "is_whole" sWhole fW fdW) (bW : Binds K fdW ["thing"] [])
    (gW : mg "is_whole" = some (.ref fW)) (gM : mg "MOST_PLACES" = some (.int 12 t1)) (gA : mg "ABOVE_THIRTY_FIGURES" = some (.int (10 ^ 30) t2))
    (mi : mg "isinstance" = none) (mI : mg "int" = none) (mB : mg "bool" = none) (mT : mg "tuple" = none) (mA : mg "all" = none) (mS : mg "sum" = none) (ml : mg "len" = none) :
    FnOk P w K mg base CX0 (k + 2) f fd ["thing"] spRow := by
  have GW : FnOk P w K mg base CX0 (k + 1) fW fdW ["thing"] spWhole := ok_whole FW mi mI mB
  refine F.ok scRow (fun vs H Q E h => ?_) (fun cdv A outer s H vs Q E hr h => ?_)
  · obtain ⟨x, d, rfl, _⟩ := h
    rfl
  · obtain ⟨x, d, rfl, hd, q⟩ := h
    refine ⟨_, pss_cons (ps_if (PW.pt (pw_or
        (pt_not (pt_val (pe_callB call_isi (by rfl) mi (by decide +kernel) (pa_cons (pv 0) (pa_cons (pe_bltn (v := .ty "tuple") (by rfl) mT (by decide +kernel) rfl) pa_nil)))))
        (pw_or1 (pt_not (pt_chain op_le op_le pe_int (pe_callB call_len_seq (by rfl) ml PySem.boot_len (pa_cons (pv 0) pa_nil)) (pe_glob (v := .int 12) (by rfl) gM ⟨_, rfl⟩))))))
        (pss_one (ps_ret pe_bl)) pss_nil)
      (pss_cons (ps_if (pt_not (pt_val (pe_callB (cr_all rfl) (by rfl) mA (by decide +kernel) (pa_cons
          (pe_lc (own := [("amount", 1)]) (g := gName 1) (tt := tYes) rfl scRow.nd (pi_tup (pv 0)) (blkOk_by (N := ["thing", "amount"]) (sc := defScope sRow) (by decide +kernel))
            (fun _ _ _ _ _ => pg_name (i := 1) scRow.nd rfl (Or.inl rfl)) (fun _ _ _ _ _ => pts_nil)
            (fun _ _ _ _ _ => pe_and (pe_call GW hr (by rfl) gW FW.kp bW .nil pass0 (pa_cons (pv 1) pa_nil)) (pe_one (pe_cmp (pc_ge (pv 1) pe_int) rfl))))
          pa_nil))))
        (pss_one (ps_ret pe_bl)) pss_nil)
      (pss_one (ps_ret (pe_chain op_lt op_lt pe_int (pe_callB (sumT rfl) (by rfl) mS (by decide +kernel) (pa_cons (pv 0) pa_nil)) (pe_glob (v := .int (10 ^ 30)) (by rfl) gA ⟨_, rfl⟩))))), ?_⟩
    refine ⟨x, rfl, x, _, _, _, _, rfl, .ty "tuple", hd.ty, kit_tuple _ d, isTupD d, rfl, ?_⟩
    cases ht : isTupD d with
    | false =>
      have e0 : rowD d = false := by cases d <;> first | rfl | cases ht
      refine iteT (iteT ?_)
      have := q H (Same.refl H)
      rw [e0] at this
      exact this
    | true =>
      cases hd with
      | @tup a xs ds e r =>
        refine iteF ?_
        have hS : SqT K H a xs := SqT.of e
        have hl := r.length
        refine ⟨.ref a, rfl, a, xs, rfl, .inr hS, ?_⟩
        have fail : rowL ds = false → Q (.bl false) H := fun z => by
          have := q H (Same.refl H)
          rw [show rowD (.tuple ds) = false from z] at this
          exact this
        refine ⟨1, (xs.length : Int), rfl, rfl, _, rfl, ite2 (fun h1 => ?_) (fun h1 => ?_)⟩
        rotate_left
        · refine ⟨false, rfl, iteT (fail ?_)⟩
          have n1 : ¬ 1 ≤ ds.length := fun z => h1 (decide_eq_true (by rw [hl] at z; omega))
          unfold rowL
          rw [decide_eq_false n1]
          rfl
        refine ⟨(xs.length : Int), 12, rfl, rfl, decide ((xs.length : Int) ≤ 12), rfl, ?_⟩
        cases h2 : decide ((xs.length : Int) ≤ 12) with
        | false =>
          refine iteT (fail ?_)
          have n2 : ¬ ds.length ≤ 12 := fun z => of_decide_eq_false h2 (by rw [hl] at z; omega)
          unfold rowL
          rw [decide_eq_false n2, Bool.and_false]
          rfl
        | true =>
          refine iteF ?_
          have len1 : 1 ≤ ds.length := by have := of_decide_eq_true h1; omega
          have len2 : ds.length ≤ 12 := by have := of_decide_eq_true h2; omega
          have rw1 : rowL ds = (ds.all nnD && (decide (0 < sumD ds) && decide (sumD ds < 10 ^ 30))) := by
            unfold rowL
            rw [decide_eq_true len1, decide_eq_true len2]
            rfl
          refine ⟨.ref a, rfl, a, rfl, ⟨_, hS⟩, fun D nD => ?_⟩
          have sD : Same H (upd H D (.lst [])) := same_upd nD
          refine lc_tup (K := K) (a := a) (xs := xs) (fun i H' => Same H H' ∧ H' D = some (.lst ((ds.take i).map fun d => V.bl (nnD d)))) ⟨sD, upd_same⟩ ?_ ?_ ?_
          · intro i H' _ h
            exact SqT.of (h.1 _ _ e)
          · rintro i y H' hy ⟨sm, hD⟩
            obtain ⟨dy, hdy, hd'⟩ := DdAll_get r hy
            have step : ∀ b : Bool, b = nnD dy → ∃ acc, H' D = some (.lst acc) ∧ acc.length < sizeLine ∧ Same H (upd H' D (.lst (acc ++ [V.bl b]))) ∧
                upd H' D (.lst (acc ++ [V.bl b])) D = some (.lst ((ds.take (i + 1)).map fun d => V.bl (nnD d))) := by
              rintro b rfl
              refine ⟨_, hD, ?_, ?_, ?_⟩
              · rw [List.length_map, List.length_take]
                exact small1000 (by omega)
              · intro c o hc
                rw [upd_ne (ne_of_none hc nD)]
                exact sm c o hc
              · rw [upd_same, List.take_add_one, hdy, List.map_append]
                rfl
            refine ⟨rfl, y, rfl, y, dy, rfl, hd'.same sm, wholeD dy, rfl, ?_⟩
            cases hw : wholeD dy with
            | false => exact iteF (step false (by cases dy <;> first | rfl | cases hw))
            | true =>
              cases hd' with
              | int n => exact iteT ⟨_, rfl, n, 0, rfl, rfl, step _ rfl⟩
              | _ => cases hw
          · rintro H' ⟨sm, hD⟩
            rw [← hl, List.take_length] at hD
            have hbs : SqL K H' D ((ds.map nnD).map V.bl) := .inl (.inl (by rw [List.map_map]; exact hD))
            refine ⟨D, ds.map nnD, rfl, hbs, _, rfl, ?_⟩
            have eall : (ds.map nnD).all id = ds.all nnD := by rw [List.all_map]; rfl
            rw [eall]
            cases ha : ds.all nnD with
            | false =>
              refine iteT ?_
              have := q H' sm
              rw [show rowD (.tuple ds) = false by show rowL ds = false; rw [rw1, ha]; rfl] at this
              exact this
            | true =>
              refine iteF ?_
              obtain ⟨ns, rfl, ens, _, esum⟩ := ints_of r ha
              have fin : ∀ b : Bool, b = (decide (0 < sumD ds) && decide (sumD ds < 10 ^ 30)) → Q (.bl b) H' := by
                rintro b rfl
                have := q H' sm
                rw [show rowD (.tuple ds) = (decide (0 < sumD ds) && decide (sumD ds < 10 ^ 30)) by show rowL ds = _; rw [rw1, ha]; rfl] at this
                exact this
              refine ⟨.ref a, rfl, a, ns, rfl, SqT.of (sm _ _ e), 0, ns.sum, rfl, rfl, decide (0 < ns.sum), rfl, ?_⟩
              rw [← esum]
              cases h3 : decide (0 < sumD ds) with
              | false => exact iteF (fin _ (by rw [h3]; rfl))
              | true => exact iteT ⟨sumD ds, 10 ^ 30, rfl, rfl, fin _ (by rw [h3]; rfl)⟩
      | _ => cases ht
end
end K61

namespace K61
open PySem PySem.Spec PyProof.Rows L2 MG
abbrev sOs : Stmt := topS 18
theorem scOs : FnScope ["text", "signs", "sign"] ["text", "signs"] (defScope sOs) := ⟨rfl, rfl, rfl, by decide +kernel, rfl, by decide +kernel, by decide +kernel⟩
section
variable {P : Program} {w : World} {K : PySem.W.Frag} {mg : Str → Option Value} {base : Heap}
def sgB (z y : Str) : Bool := (z.cps.toList.map fun c => decide (c ∈ y.cps.toList)).all id
def spOs : Sp := fun vs H Q _ => ∃ (z y : Str), vs = [.str z, .str y] ∧ z.length ≤ 1000 ∧ ∀ H', Same H H' → Q (.bl (sgB z y)) H'
theorem ok_os {f : Addr} {fd : FuncData} {k : Nat} (F : Fun K "is_of_signs" "is_of_signs" sOs f fd) (m_all : mg "all" = none) : FnOk P w K mg base CX0 (k + 1) f fd ["text", "signs"] spOs := by
  refine F.ok scOs (fun vs H Q E h => ?_) (fun cdv A outer s H vs Q E hr h => ?_)
  · obtain ⟨z, y, rfl, _⟩ := h
    rfl
  · obtain ⟨z, y, rfl, lz, q⟩ := h
    refine ⟨_, pss_one (ps_ret (pe_callB (cr_all rfl) (by rfl) m_all (by decide +kernel) (pa_cons (pe_lc (own := [("sign", 2)]) (g := gName 2) (tt := tYes) rfl scOs.nd (pi_str (pv 0)) (blkOk_by (N := ["text", "signs", "sign"]) (sc := defScope sOs) (by decide +kernel)) (fun _ _ _ _ _ => pg_name (i := 2) scOs.nd rfl (Or.inl rfl)) (fun _ _ _ _ _ => pts_nil) (fun _ _ _ _ _ => pe_cmpR op_inS (pv 2) (pv 1) (by rfl))) pa_nil))), ?_⟩
    refine ⟨_, rfl, z, rfl, fun D nD => ?_⟩
    refine lc_it (walk_str (z := z)) (fun m G => Same H G ∧ G D = some (.lst (((z.cps.toList.take m).map fun c => decide (c ∈ y.cps.toList)).map V.bl))) ⟨same_upd nD, upd_same⟩ ?_ ?_ ?_
    · intro m G _ _
      trivial
    · rintro m u G G' hm ⟨sm, hD⟩ ⟨rfl, c, hc, rfl⟩
      refine ⟨rfl, _, rfl, _, rfl, c, y, rfl, rfl, _, hD, by rw [List.length_map, List.length_map, List.length_take, sizeLine_eq]; have : z.cps.size ≤ 1000 := lz; omega, fun b o e => by rw [upd_ne (ne_of_none e nD)]; exact sm b o e, ?_⟩
      rw [upd_same, List.take_add_one, Array.getElem?_toList, hc, List.map_append, List.map_append]
      rfl
    rintro G ⟨sm, hD⟩
    rw [show z.cps.size = z.cps.toList.length from Array.length_toList.symm, List.take_length] at hD
    exact ⟨D, _, rfl, SqL.of hD, q G sm⟩
end
end K61

/-! MXa: numbers, rows, runs and plans as they are written, on lists of signs -/
namespace TX
open PySem TL
theorem pre1 (s c : Nat) (r : List Nat) : pre [s] (c :: r) = decide (c = s) := by
  show ([c] == [s]) = _
  by_cases h : c = s
  · subst h; simp
  · simp [h]
/-- cut at each sign s -/
def sp (s : Nat) : List Nat → List Nat → List (List Nat)
  | acc, [] => [acc]
  | acc, c :: r => if c = s then acc :: sp s [] r else sp s (acc ++ [c]) r
/-- ahead of the first sign s, and behind it -/
def pa (s : Nat) : List Nat → List Nat → Option (List Nat × List Nat)
  | _, [] => none
  | acc, c :: r => if c = s then some (acc, r) else pa s (acc ++ [c]) r
theorem sp_cons (s c : Nat) (r acc : List Nat) : sp s acc (c :: r) = if c = s then acc :: sp s [] r else sp s (acc ++ [c]) r := rfl
theorem pa_cons (s c : Nat) (r acc : List Nat) : pa s acc (c :: r) = if c = s then some (acc, r) else pa s (acc ++ [c]) r := rfl
theorem spl_sp (s : Nat) : ∀ (l acc : List Nat), spl [s] 0 acc l = sp s acc l
  | [], acc => spl_nil _ _ _
  | c :: r, acc => by
    rw [sp_cons]
    by_cases h : c = s
    · rw [if_pos h, spl_hit (by rw [pre1, decide_eq_true h]), ← spl_sp s r []]; rfl
    · rw [if_neg h, spl_miss (by rw [pre1, decide_eq_false h]), spl_sp s r]
theorem par_pa (s : Nat) : ∀ (l acc : List Nat), par [s] acc l = pa s acc l
  | [], acc => rfl
  | c :: r, acc => by
    rw [pa_cons]
    by_cases h : c = s
    · rw [if_pos h, par_hit (by rw [pre1, decide_eq_true h])]; rfl
    · rw [if_neg h, par_miss (by rw [pre1, decide_eq_false h]), par_pa s r]
theorem pa_cases (s : Nat) : ∀ (l acc : List Nat), (pa s acc l = none ∧ sp s acc l = [acc ++ l] ∧ s ∉ l) ∨ ∃ a' b, pa s acc l = some (acc ++ a', b) ∧ sp s acc l = (acc ++ a') :: sp s [] b ∧ s ∉ a' ∧ l = a' ++ s :: b
  | [], acc => .inl ⟨rfl, by rw [List.append_nil]; rfl, List.not_mem_nil⟩
  | c :: r, acc => by
    rw [pa_cons, sp_cons]
    by_cases h : c = s
    · rw [if_pos h, if_pos h]
      exact .inr ⟨[], r, by rw [List.append_nil], by rw [List.append_nil], List.not_mem_nil, by rw [h]; rfl⟩
    · rw [if_neg h, if_neg h]
      rcases pa_cases s r (acc ++ [c]) with ⟨h1, h2, h3⟩ | ⟨a', b, h1, h2, h3, h4⟩
      · exact .inl ⟨h1, by rw [h2, List.append_assoc]; rfl, by simp only [List.mem_cons, not_or]; exact ⟨fun z => h z.symm, h3⟩⟩
      · refine .inr ⟨c :: a', b, by rw [h1, List.append_assoc]; rfl, by rw [h2, List.append_assoc]; rfl, by simp only [List.mem_cons, not_or]; exact ⟨fun z => h z.symm, h3⟩, by rw [h4]; rfl⟩
theorem sp_ne (s : Nat) : ∀ (l acc : List Nat), 1 ≤ (sp s acc l).length
  | [], _ => Nat.le_refl 1
  | c :: r, acc => by
    rw [sp_cons]
    split
    · rw [List.length_cons]; omega
    · exact sp_ne s r _
theorem sp_free {s : Nat} {l : List Nat} (h : s ∉ l) : sp s [] l = [l] := by
  rcases pa_cases s l [] with ⟨_, h2, _⟩ | ⟨a', b, _, _, _, h4⟩
  · exact h2
  · exact absurd (by rw [h4]; simp) h
theorem sp_two {s : Nat} {l : List Nat} (h : s ∈ l) : 2 ≤ (sp s [] l).length := by
  rcases pa_cases s l [] with ⟨_, _, h3⟩ | ⟨a', b, _, h2, _, _⟩
  · exact absurd h h3
  · rw [h2, List.length_cons]
    have := sp_ne s b []
    omega
theorem sp_most (s : Nat) : ∀ (l acc : List Nat), (sp s acc l).length ≤ l.length + 1
  | [], _ => Nat.le_refl 1
  | c :: r, acc => by
    rw [sp_cons]
    split
    · rw [List.length_cons, List.length_cons]; have := sp_most s r []; omega
    · rw [List.length_cons]; have := sp_most s r (acc ++ [c]); omega
theorem sp_short (s : Nat) : ∀ (l acc : List Nat), ∀ p ∈ sp s acc l, p.length ≤ acc.length + l.length
  | [], acc, p, h => by
    rw [List.mem_singleton.mp h]; exact Nat.le_add_right _ _
  | c :: r, acc, p, h => by
    rw [sp_cons] at h
    rw [List.length_cons]
    split at h
    · rcases List.mem_cons.mp h with e | h
      · rw [e]; omega
      · have := sp_short s r [] p h
        rw [List.length_nil] at this
        omega
    · have := sp_short s r _ p h
      rw [List.length_append, List.length_singleton] at this
      omega
theorem sp_sub (s : Nat) : ∀ (l acc : List Nat), ∀ p ∈ sp s acc l, ∀ c ∈ p, c ∈ acc ∨ c ∈ l
  | [], acc, p, h, c, hc => by
    rw [List.mem_singleton.mp h] at hc
    exact .inl hc
  | d :: r, acc, p, h, c, hc => by
    rw [sp_cons] at h
    split at h
    · rcases List.mem_cons.mp h with e | h
      · rw [e] at hc; exact .inl hc
      · rcases sp_sub s r [] p h c hc with z | z
        · exact absurd z List.not_mem_nil
        · exact .inr (List.mem_cons_of_mem _ z)
    · rcases sp_sub s r _ p h c hc with z | z
      · rcases List.mem_append.mp z with z | z
        · exact .inl z
        · exact .inr (by rw [List.mem_singleton.mp z]; exact List.mem_cons_self)
      · exact .inr (List.mem_cons_of_mem _ z)
theorem glue (s : Nat) : ∀ (l acc : List Nat), joinL [s] (sp s acc l) = acc ++ l
  | [], acc => by rw [List.append_nil]; rfl
  | c :: r, acc => by
    rw [sp_cons]
    split
    · rename_i h
      obtain ⟨p, ps, e⟩ : ∃ p ps, sp s [] r = p :: ps := by
        cases h : sp s [] r with
        | nil => have := sp_ne s r []; rw [h] at this; exact absurd this (by decide)
        | cons p ps => exact ⟨p, ps, rfl⟩
      have ih := glue s r []
      rw [e] at ih ⊢
      show acc ++ ([s] ++ joinL [s] (p :: ps)) = _
      rw [ih, h]; rfl
    · rw [glue s r, List.append_assoc]; rfl
/-! ### numbers -/
def isNum (l : List Nat) : Bool := decide (1 ≤ l.length ∧ l.length ≤ 30) && (l.all (fun c => decide (48 ≤ c ∧ c ≤ 57)) && (decide (l = [48]) || !decide (l.head? = some 48)))
def numW (l : List Nat) : Option Nat := if isNum l = true then some (NumText.digitsVal l) else none
theorem val_lt : ∀ (l : List Nat) (a : Nat), NumText.AllDigits l → l.foldl (fun acc c => acc * 10 + (c - 48)) a < (a + 1) * 10 ^ l.length
  | [], a, _ => by rw [List.length_nil, Nat.pow_zero, Nat.mul_one]; exact Nat.lt_succ_self a
  | c :: r, a, h => by
    have := val_lt r (a * 10 + (c - 48)) h.tail
    have hc := h.head
    rw [List.foldl_cons, List.length_cons, Nat.pow_succ]
    refine Nat.lt_of_lt_of_le this ?_
    have h1 : a * 10 + (c - 48) + 1 ≤ (a + 1) * 10 := by omega
    refine Nat.le_trans (Nat.mul_le_mul_right _ h1) (Nat.le_of_eq ?_)
    rw [Nat.mul_assoc, Nat.mul_comm 10]
theorem isNum_iff {l : List Nat} : isNum l = true ↔ (1 ≤ l.length ∧ l.length ≤ 30) ∧ NumText.AllDigits l ∧ (l = [48] ∨ ¬ l.head? = some 48) := by
  unfold isNum
  rw [Bool.and_eq_true, Bool.and_eq_true, Bool.or_eq_true, decide_eq_true_iff, decide_eq_true_iff, Bool.not_eq_true', decide_eq_false_iff_not, List.all_eq_true]
  refine and_congr Iff.rfl (and_congr ⟨fun h c hc => of_decide_eq_true (h c hc), fun h c hc => decide_eq_true (h c hc)⟩ Iff.rfl)
theorem numW_some {l : List Nat} {n : Nat} (h : numW l = some n) : isNum l = true ∧ n = NumText.digitsVal l ∧ n < 10 ^ 30 ∧ ∀ c ∈ l, 48 ≤ c ∧ c ≤ 57 := by
  unfold numW at h
  by_cases e : isNum l = true
  · rw [if_pos e] at h
    cases h
    obtain ⟨h1, h2, h3⟩ := isNum_iff.mp e
    refine ⟨e, rfl, ?_, h2⟩
    have := val_lt l 0 h2
    unfold NumText.digitsVal
    refine Nat.lt_of_lt_of_le this ?_
    rw [Nat.zero_add, Nat.one_mul]
    exact Nat.pow_le_pow_right (by decide) h1.2
  · rw [if_neg e] at h; cases h
theorem numW_free {l : List Nat} {s : Nat} (hs : s < 48 ∨ 57 < s) (h : s ∈ l) : numW l = none := by
  cases e : numW l with
  | none => rfl
  | some n =>
    have := (numW_some e).2.2.2 s h
    omega
theorem numW_nil : numW [] = none := by decide
/-- all or none -/
def allN {α : Type} : List (Option α) → Option (List α)
  | [] => some []
  | none :: _ => none
  | some a :: r => (allN r).map (a :: ·)
theorem allN_some {α : Type} : ∀ {l : List (Option α)} {r : List α}, allN l = some r ↔ l = r.map some
  | [], r => by cases r <;> simp [allN]
  | none :: l, r => by cases r <;> simp [allN]
  | some a :: l, r => by
    unfold allN
    cases r with
    | nil => simp
    | cons b r =>
      rw [Option.map_eq_some_iff]
      constructor
      · rintro ⟨x, h1, h2⟩
        obtain ⟨e1, e2⟩ := List.cons.inj h2
        rw [allN_some.mp h1, e1, e2]; rfl
      · intro h
        rw [List.map_cons] at h
        obtain ⟨e1, e2⟩ := List.cons.inj h
        cases e1
        exact ⟨r, allN_some.mpr e2, rfl⟩
theorem allN_none {α : Type} {l : List (Option α)} (h : none ∈ l) : allN l = none := by
  cases e : allN l with
  | none => rfl
  | some r =>
    rw [allN_some.mp e] at h
    obtain ⟨x, _, hx⟩ := List.mem_map.mp h
    cases hx
theorem allN_map {α β : Type} {f : α → Option β} : ∀ {l : List α}, (∀ x ∈ l, f x ≠ none) → ∃ r, allN (l.map f) = some r
  | [], _ => ⟨[], rfl⟩
  | a :: l, h => by
    obtain ⟨r, hr⟩ := allN_map (f := f) (l := l) fun x hx => h x (List.mem_cons_of_mem _ hx)
    cases e : f a with
    | none => exact absurd e (h a List.mem_cons_self)
    | some b => exact ⟨b :: r, by rw [List.map_cons, e]; unfold allN; rw [hr]; rfl⟩
/-! ### rows, runs, plans -/
def rowT (l : List Nat) : Option (List Nat) := match allN ((sp 32 [] l).map numW) with
  | some ns => if ns.length ≤ 12 ∧ 0 < ns.sum ∧ ns.sum < 10 ^ 30 then some ns else none
  | none => none
def threeW (g t b : List Nat) : Option (Nat × Nat × Nat) := match numW g, numW t, numW b with
  | some i, some j, some k => if i ≠ j ∧ i < 12 ∧ j < 12 then some (i, j, k) else none
  | _, _, _ => none
def runT (l : List Nat) : Option (Nat × Nat × Nat) := match pa 42 [] l with
  | some (a, b) => match pa 62 [] a with
    | some (g, t) => threeW g t b
    | none => none
  | none => none
def planT (l : List Nat) : Option (List (Nat × Nat × Nat)) := if sp 32 [] l = [[45]] then some [] else allN ((sp 32 [] l).map runT)
theorem plan_dash {l : List Nat} : sp 32 [] l = [[45]] ↔ l = [45] := by
  constructor
  · intro h
    have := glue 32 l []
    rw [h] at this
    exact this.symm
  · intro h
    rw [h]; decide
theorem three_none1 {g t b : List Nat} (h : numW g = none) : threeW g t b = none := by unfold threeW; rw [h]
theorem three_none2 {g t b : List Nat} (h : numW t = none) : threeW g t b = none := by
  unfold threeW; rw [h]; cases numW g <;> rfl
theorem three_none3 {g t b : List Nat} (h : numW b = none) : threeW g t b = none := by
  unfold threeW; rw [h]; cases numW g <;> cases numW t <;> rfl
theorem three_some {g t b : List Nat} {i j k : Nat} (h : threeW g t b = some (i, j, k)) : numW g = some i ∧ numW t = some j ∧ numW b = some k ∧ i ≠ j ∧ i < 12 ∧ j < 12 := by
  unfold threeW at h
  cases h1 : numW g with
  | none => rw [h1] at h; cases h
  | some i' =>
    cases h2 : numW t with
    | none => rw [h1, h2] at h; cases h
    | some j' =>
      cases h3 : numW b with
      | none => rw [h1, h2, h3] at h; cases h
      | some k' =>
        rw [h1, h2, h3] at h
        dsimp only at h
        split at h
        · cases h
          rename_i q
          exact ⟨rfl, rfl, rfl, q⟩
        · cases h
/-- by two cuts, just two parts each -/
theorem run_parts (l : List Nat) : (∃ g t b, sp 42 [] l = [(g ++ 62 :: t), b] ∧ sp 62 [] (g ++ 62 :: t) = [g, t] ∧ runT l = threeW g t b) ∨ (runT l = none ∧ ((sp 42 [] l).length ≠ 2 ∨ (sp 62 [] ((sp 42 [] l).getD 0 [])).length ≠ 2)) := by
  unfold runT
  rcases pa_cases 42 l [] with ⟨h1, h2, _⟩ | ⟨a, b, h1, h2, _, _⟩
  · rw [h1, h2]
    exact .inr ⟨rfl, .inl (show 1 ≠ 2 by decide)⟩
  rw [h1, h2]
  simp only [List.nil_append]
  by_cases hb : 42 ∈ b
  · refine .inr ⟨?_, .inl ?_⟩
    · cases pa 62 [] a with
      | none => rfl
      | some p => exact three_none3 (numW_free (.inl (by decide)) hb)
    · rw [List.length_cons]
      have := sp_two hb
      omega
  · rw [sp_free hb]
    rcases pa_cases 62 a [] with ⟨k1, k2, _⟩ | ⟨g, t, k1, k2, _, k4⟩
    · rw [k1]
      refine .inr ⟨rfl, .inr ?_⟩
      show (sp 62 [] a).length ≠ 2
      rw [k2]; show 1 ≠ 2; decide
    · rw [k1]
      simp only [List.nil_append] at k1 k2 ⊢
      by_cases ht : 62 ∈ t
      · refine .inr ⟨three_none2 (numW_free (.inr (by decide)) ht), .inr ?_⟩
        show (sp 62 [] a).length ≠ 2
        rw [k2, List.length_cons]
        have := sp_two ht
        omega
      · rw [sp_free ht] at k2
        exact .inl ⟨g, t, b, by rw [k4], by rw [← k4]; exact k2, rfl⟩
/-! ### texts -/
theorem split_tl (x : Str) {y : Str} {s : Nat} (ey : tl y = [s]) (hs : s < 256) : (Txt.split x y).map tl = sp s [] (tl x) := by
  rw [split_spl x y (by rw [ey]; simp) (kind_ok (by rw [← Array.all_toList, show y.cps.toList = [s] from ey]; simpa using hs)), ey, spl_sp]
theorem part_tl (x : Str) {y : Str} {s : Nat} (ey : tl y = [s]) : ((pa s [] (tl x) = none ∧ Txt.partition x y = (x, Str.empty, Str.empty)) ∨ ∃ a b, pa s [] (tl x) = some (tl a, tl b) ∧ Txt.partition x y = (a, y, b)) := by
  rw [partition_par x y (by rw [ey]; simp), ey, par_pa]
  cases h : pa s [] (tl x) with
  | none => exact .inl ⟨rfl, rfl⟩
  | some p => exact .inr ⟨⟨p.1.toArray⟩, ⟨p.2.toArray⟩, rfl, rfl⟩
end TX

/-! MWa: a list comprehension whose element may raise: the exception leaves the def -/
namespace MG
open PySem PySem.Spec PyProof.Rows L2
/-- the frames, where one object that is none of theirs is another -/
theorem frames_but {B B2 h h' : Heap} : ∀ {l : List Env}, h.FunFrames B l → (∀ L ∈ frs l, h'.get? L = h.get? L ∧ B2.get? L = none) → h'.FunFrames B2 l
  | [], _, _ => True.intro
  | e :: l, fr, k => by
    obtain ⟨md, ⟨L, o, q1, _, q3, q4⟩, rest⟩ := fr
    have me : L ∈ frs (e :: l) := List.mem_filterMap.mpr ⟨e, List.mem_cons_self, q1⟩
    refine ⟨md, ⟨L, o, q1, (k L me).2, (k L me).1.trans q3, q4⟩, frames_but rest fun b hb => k b ?_⟩
    obtain ⟨z, hz, q⟩ := List.mem_filterMap.mp hb
    exact List.mem_filterMap.mpr ⟨z, List.mem_cons_of_mem _ hz, q⟩
theorem held_but {B B2 h h' : Heap} {l : List Env} {a C L : Addr} {Z : Obj → Prop} {oC : Obj} (x : HandSPX.HeldZ B l a Z L h) (eC : h.get? C = some oC) (nf : ∀ vs, oC.data ≠ .fields vs) (sb : Heap.SameBut C h h')
    (b1 : ∀ b, b ≠ C → B2.get? b = B.get? b) (b2 : B2.get? C = none) (fl : ∀ L ∈ frs l, L ≠ C ∧ B.get? L = none) : HandSPX.HeldZ B2 l a Z L h' := by
  obtain ⟨st, na, fr, oe, vs, T, oT, ts, he, hz, hd, v1, nT, nTa, hT, dT, t3⟩ := x
  have aC : a ≠ C := fun z => by
    rw [z, eC] at he
    cases he
    exact nf vs hd
  have tC : T ≠ C := fun z => by
    rw [z, eC] at hT
    cases hT
    exact nf ts dT
  refine ⟨fun b o q => ?_, (b1 a aC).trans na, frames_but fr fun b hb => ⟨sb.2 b (fl b hb).1, (b1 b (fl b hb).1).trans (fl b hb).2⟩, oe, vs, T, oT, ts, (sb.2 a aC).trans he, hz, hd, v1, (b1 T tC).trans nT, nTa, (sb.2 T tC).trans hT, dT, t3⟩
  by_cases z : b = C
  · rw [z, b2] at q
    cases q
  · exact (sb.2 b z).trans (st b o ((b1 b z).symm.trans q))
/-- what is in the air of a comprehension's block leaves the comprehension -/
theorem blk_out {X : Cx} {pins pinsB pn : List (Addr × Obj)} {σ σB : L2.St} {H3 H : Hp} {s3 s s' : Shared} {scope : Scope} {ce : Env} {fp : List Addr} {xe : Value → Shared → Prop} {E : XK} {u : Value}
    (hs : X.stack = X.env :: X.outer) (hf : X.env.frame = some X.env.locals) (tk : Takes X (fun cls d _ H => E cls d H)) (I3 : Inv X pins σ H3 s3) (cF : ce.frame = X.env.frame) (cL : ce.locals = s3.heap.objs.size)
    (f3 : ∀ b ∈ fp, FpOk X pins H3 b ∧ b < s3.heap.objs.size) (I : Inv ((X.blk s3 H3 scope ce fp).tr pn xe) pinsB σB H s) (c : CX X.prog X.w X.stack H s E u s') :
    notedBy (model X.prog X.w) X.A ce (CompFails (model X.prog X.w) X.A X.xe ce) u s' := by
  obtain ⟨a, B, H', cls, d, rfl, fl, hok, ub, na, os, ag, hE⟩ := c
  have e1 : noteFrame (.ref a) ce = noteFrame (.ref a) X.env := by
    unfold noteFrame PySem.frameOf
    rw [cF]
  unfold notedBy
  rw [e1]
  refine HandSPX.looks_onZ Zc.steady (by rw [I3.ok.frames, hs]) hf (by rw [← hs]; exact fl) fun h1 hh up1 => ?_
  rw [← hs] at hh
  -- the block's names
  obtain ⟨m, hn, _⟩ := I.loc
  have hn : s.heap.Ns ce.locals m := hn
  obtain ⟨oC, es, ep, hoC, dC, rC⟩ := hn
  have frC : ∀ L ∈ frs X.stack, L ≠ ce.locals := fun L hL z => by
    obtain ⟨_, o, e, _⟩ := I3.stack.mem hL
    have := Heap.lt_size e
    rw [z, cL] at this
    exact absurd this (Nat.lt_irrefl _)
  have freeC : H ce.locals = none := I.free
  have bC : B.get? ce.locals = some oC := ub.keep _ _ hoC freeC fun z => frC _ z rfl
  have nC : H' ce.locals = none := ub.free _ _ hoC freeC
  have hC1 : h1.get? ce.locals = some oC := hh.1 _ _ bC
  have nf : ∀ vs, oC.data ≠ .fields vs := fun vs z => by rw [dC] at z; cases z
  refine ⟨m, ⟨oC, es, ep, hC1, dC, rC⟩, fun h' m' hn' sb => ?_⟩
  obtain ⟨B2, b1, b2⟩ := restrict B fun b => decide (b ≠ ce.locals)
  have b1 : ∀ b, b ≠ ce.locals → B2.get? b = B.get? b := fun b hb => b1 b (decide_eq_true hb)
  have b2 : B2.get? ce.locals = none := b2 _ (by simp)
  have frB : ∀ L ∈ frs X.stack, B.get? L = none := fun L hL => (hh.2.2.1.mem hL).1
  have held : HandSPX.HeldZ B2 X.stack a (Zc cls d) X.env.locals h' := held_but hh hC1 nf sb b1 b2 fun L hL => ⟨frC L hL, frB L hL⟩
  have held2 := held
  obtain ⟨_, _, _, oe, vs, T, oT, ts, he, hz, hd, v1, _⟩ := held2
  unfold PySem.passOn
  refine wpAny_bind (wpAny_field he hd v1 ?_)
  rw [if_neg (show ¬ ((Value.ref T == Value.none) = true) by simp), cF, hf]
  refine wpAny_bind (HandSPX.setFlight_onZ held fun h2 held2 up2 => wpAny_throw (tk _ _ ?_))
  -- the state without the exception
  obtain ⟨G, g1, g2⟩ := restrict s'.heap fun b => decide (b ≠ ce.locals) && ((B.get? b).isSome || decide (b ∈ frs X.stack))
  have st : B.StaysIn s'.heap := fl.1
  have gB : ∀ b o, b ≠ ce.locals → B.get? b = some o → G.get? b = some o := fun b o hb e => by
    rw [g1 b (by simp [hb, e])]
    exact st b o e
  have gF : ∀ b, b ∈ frs X.stack → G.get? b = s'.heap.get? b := fun b hb => g1 b (by simp [frC b hb, hb])
  have og : ∀ b o, G.get? b = some o → s'.heap.get? b = some o ∧ b ≠ ce.locals ∧ ((B.get? b).isSome = true ∨ b ∈ frs X.stack) := fun b o e => by
    cases q : (decide (b ≠ ce.locals) && ((B.get? b).isSome || decide (b ∈ frs X.stack))) with
    | false => rw [g2 b q] at e; cases e
    | true =>
      rw [g1 b q] at e
      rw [Bool.and_eq_true, Bool.or_eq_true, decide_eq_true_iff, decide_eq_true_iff] at q
      exact ⟨e, q.1, q.2⟩
  have lt3 : ∀ b o, s3.heap.get? b = some o → b ≠ ce.locals := fun b o e z => by
    have := Heap.lt_size e
    rw [z, cL] at this
    exact absurd this (Nat.lt_irrefl _)
  have base : Un (frs X.stack) fp H3 H s3.heap s.heap := I.base
  have J := I3.call (ch := fp) (h' := G) (g' := s'.gens) (t' := s'.toks) (d' := s'.drawn) (H' := H')
    ⟨fun b o e n hb hx => gB b o (lt3 b o e) (ub.keep b o (base.keep b o e n hb hx) (base.free b o e n hx) hb),
      fun b o e n hb hx => by
        obtain ⟨sl, q⟩ := base.slot b o e n hb hx
        obtain ⟨sl2, q2⟩ := ub.slot b _ q hb
        exact ⟨sl2, (gF b hb).trans q2⟩,
      fun b o e n hx => by
        obtain ⟨o', q⟩ := base.there b o e hx
        exact ub.free b o' q (base.free b o e n hx),
      fun b o e hx => by
        obtain ⟨o', q⟩ := base.there b o e hx
        by_cases hb : b ∈ frs X.stack
        · obtain ⟨sl, q2⟩ := ub.slot b o' q hb
          exact ⟨_, (gF b hb).trans q2⟩
        · obtain ⟨o2, q2⟩ := ub.there b o' q hb
          exact ⟨o2, gB b o2 (lt3 b o e) q2⟩,
      fun b xs e => ub.tups b xs (base.tups b xs e), fun b o v e => ub.frzs b o v (base.frzs b o v e), fun b ps e => by
        obtain ⟨m1, q1⟩ := base.tbls b ps e
        obtain ⟨m2, q2⟩ := ub.tbls b _ q1
        exact ⟨m1 ++ m2, by rw [q2, Array.append_assoc]⟩⟩
    (fun b o q => (hok b o q).stay (fun c v hc r => gB c v (fun z => by
      rcases hc with hc | hc
      · rw [← z, hc, q] at nC; cases nC
      · rw [← z, hc] at nC; cases nC) r) (fun _ r => r) fun _ _ r => r) ag
    fun b hb => ⟨(f3 b hb).1.2.2.2.1, (f3 b hb).1.2.1, (f3 b hb).1.2.2.2.2.1, (f3 b hb).1.2.2.2.2.2⟩
  refine ⟨a, B2, _, pins, σ, H', cls, d, rfl, J, fun b o e hb => ?_, fun b o e hnf => ?_, .inr (.inr held2), na, ?_, ag, hE⟩
  · obtain ⟨e', hne, h⟩ := og b o e
    rcases h with h | h
    · obtain ⟨o', q⟩ := Option.isSome_iff_exists.mp h
      have z := st b o' q
      rw [e'] at z
      cases z
      exact (b1 b hne).trans q
    · exact absurd h hb
  · obtain ⟨e', hne, _⟩ := og b o e
    obtain ⟨sl, q⟩ := up1 b o e' hnf
    obtain ⟨sl2, q2⟩ := up2 b _ ((sb.2 b hne).trans q) hnf
    exact ⟨sl2, q2⟩
  · show s'.os = s3.os
    rw [os]
    exact I.os
end MG

/-! MWb: the rule of such a comprehension, as a value and stored -/
namespace MG
open PySem PySem.Spec PyProof.Rows L2
section
variable {X : Cx}
/-- the block, its iterator standing: one turn after the other, or out -/
theorem block_loop {pins : List (Addr × Obj)} {σ : L2.St} {H3 : Hp} {s3 s4 : Shared} {D it : Addr} {E : XK} {Q : VK} {elt tg iter : Expr} {ifs : List Expr} {scope : Scope} {own : List (Str × Nat)} {pos : Pos} {g : TG} {tt : TT} {te : TE} {use : Option (Value → Sem Unit)} {Qf : Value → Shared → Prop}
    {ce : Env} {fp : List Addr} {tn : Nat → Heap → Prop} {J : It} {W : Nat → Nat → Hp → Prop} {m0 : Nat} (hc : X.calm = true) (hs : X.stack = X.env :: X.outer) (hf : X.env.frame = some X.env.locals) (tk : Takes X (fun cls d _ H => E cls d H))
    (I3 : Inv X pins σ H3 s3) (cF : ce.frame = X.env.frame) (cL : ce.locals = s3.heap.objs.size) (f3 : ∀ b ∈ fp, FpOk X pins H3 b ∧ b < s3.heap.objs.size) (T : Turn X.prog X.w X.K tg J fp it tn)
    (pg : PG (X.blk s3 H3 scope ce fp) tg g) (pt : PTs (X.blk s3 H3 scope ce fp) ifs tt) (pe : ∀ pn xe, Passes (CX X.prog X.w) ((X.blk s3 H3 scope ce fp).tr pn xe) E → PE ((X.blk s3 H3 scope ce fp).tr pn xe) elt te)
    (I4 : Inv (X.blk s3 H3 scope ce fp) [] (wipe σ (own.map (·.2))) H3 s4) (st4 : tn 0 s4.heap) (nfp : ∀ b ∈ fp, H3 b = none) (w0 : W 0 m0 H3)
    (turn : ∀ i m H, W i m H → (J.stop i H ∧ Q (.ref D) H) ∨ (J.go i H ∧ ∃ Nx : Hp → Prop, (∀ H', Nx H' → ∃ m', m' < m ∧ W (i + 1) m' H') ∧ ∀ x H', J.yld i H x H' → g x (wipe σ (own.map (·.2))) H' fun σ2 H2 => wipe σ2 (own.map (·.2)) = wipe σ (own.map (·.2)) ∧ tt σ2 H2 fun b H3 =>
      if b = true then te σ2 H3 fun y H4 => ∃ acc, H4 D = some (.lst acc) ∧ acc.length < sizeLine ∧ Nx (upd H4 D (.lst (acc ++ [y]))) else Nx H3))
    (fin : ∀ s' m H', Inv X pins σ H' s' → Q (.ref D) H' → s'.heap.Ns ce.locals m → FpOk X pins H' ce.locals → compEnds (model X.prog X.w) X.A X.xe use Qf (.ref D) ce (.ok .next) s') :
    codeAny (model X.prog X.w) X.A (.compLoop (.ListComp elt [⟨tg, iter, ifs, 0⟩] scope pos) 0 (.ref it) (.ref D) ce) (compEnds (model X.prog X.w) X.A X.xe use Qf (.ref D) ce) s4 := by
  have still : ∀ {σ' : L2.St} {H' : Hp} {s' : Shared}, Inv (X.blk s3 H3 scope ce fp) [] σ' H' s' → (∀ b ∈ fp, H' b = none) → ∀ b ∈ fp, FpOk (X.blk s3 H3 scope ce fp) [] H' b := fun {σ' H' s'} I' n b hb =>
    ⟨n b hb, (I'.ok.exf b hb).1, I'.ok.exfs b hb, .inl hb, fun x c e => (I'.ok.exf b hb).2 x c e, fun p hp => by simp at hp⟩
  refine compLoop_any (fun n s' => ∃ i H', Inv (X.blk s3 H3 scope ce fp) [] (wipe σ (own.map (·.2))) H' s' ∧ tn i s'.heap ∧ (∀ b ∈ fp, H' b = none) ∧ W i n H') ?_ m0 ⟨0, H3, I4, st4, nfp, w0⟩
  rintro n s5 ⟨i, H5, I5, st5, n5, w5⟩
  rcases turn i n H5 w5 with ⟨stop, qq⟩ | ⟨go, Nx, hNx, step⟩
  · refine thnF (T.done (X.blk s3 H3 scope ce fp) rfl rfl rfl hc i [] s5 _ H5 (fun _ _ => False) I5 (still I5 n5) st5 stop) fun r s6 ⟨hr, I6⟩ => ?_
    subst hr
    have back : Inv X pins σ H5 s6 := I3.call' (ch := fp) I6.os I6.base I6.hok I6.bare fun b hb => ⟨(f3 b hb).1.2.2.2.1, (f3 b hb).1.2.1, (f3 b hb).1.2.2.2.2.1, (f3 b hb).1.2.2.2.2.2⟩
    obtain ⟨m, hn, _⟩ := I6.loc
    have nC : H5 s3.heap.objs.size = none := cL ▸ (I6.free : H5 ce.locals = none)
    exact fin s6 m H5 back qq hn (by rw [cL]; exact I3.fpOk (Nat.le_refl _) nC)
  · refine thnF (T.item (X.blk s3 H3 scope ce fp) rfl rfl rfl hc i [] s5 _ H5 (fun _ _ => False) I5 (still I5 n5) st5 go) fun r s6 ⟨u, hr, h6⟩ => ?_
    subst hr
    refine thnF h6 fun _ s7 ⟨x, H7, I7, r7, y7, st7, n7⟩ => ?_
    have J7 := I7.pinned (still I7 n7) (T.obj _ _ st7)
    refine thnF (pg.run _ s7 _ H7 x u _ J7 r7 (step x H7 y7)) fun _ s8 ⟨σ8, H8, I8, hw8, q8⟩ => ?_
    refine thnF (pt.run _ s8 σ8 H8 _ I8 q8) fun b s9 ⟨H9, I9, q9⟩ => ?_
    have over : ∀ {s' : Shared} {H' : Hp}, Inv (X.blk s3 H3 scope ce fp) ([] ++ pinsAt fp s7.heap) σ8 H' s' → Nx H' → ∃ m, m < n ∧ ∃ i H', Inv (X.blk s3 H3 scope ce fp) [] (wipe σ (own.map (·.2))) H' s' ∧ tn i s'.heap ∧ (∀ b ∈ fp, H' b = none) ∧ W i m H' := fun {s' H'} I' nx => by
      obtain ⟨m', hm, w'⟩ := hNx H' nx
      have pinned : ∀ b ∈ fp, ∀ o, s7.heap.get? b = some o → s'.heap.get? b = some o ∧ H' b = none := fun b hb o e => by
        have z := I'.pin (b, o) (List.mem_append_right _ (List.mem_append_right _ (mem_pinsAt hb e)))
        exact ⟨z.1, z.2.1⟩
      refine ⟨m', hm, i + 1, H', (I'.unpinned (pins := [])).weak (by rw [← hw8, wipe_length]) (fun j v e => ?_), T.keep _ _ _ st7 fun b hb o e => (pinned b hb o e).1, fun b hb => ?_, w'⟩
      · rw [← hw8] at e
        exact (wipe_some e).1
      · obtain ⟨o, e, _⟩ := T.obj _ _ st7 b hb
        exact (pinned b hb o e).2
    cases b with
    | false =>
      simp only [Bool.false_eq_true, if_false] at q9 ⊢
      exact over I9 q9
    | true =>
      simp only [if_true] at q9 ⊢
      have out : Passes (CX X.prog X.w) ((X.blk s3 H3 scope ce fp).tr ((X.blk s3 H3 scope ce fp).pn ++ ([] ++ pinsAt fp s7.heap)) (notedBy (model X.prog X.w) X.A ce (CompFails (model X.prog X.w) X.A X.xe ce))) E :=
        fun pinsB σB H s e s' I c => blk_out hs hf tk I3 cF cL f3 I c
      have ok8 := I9.ok
      refine thn ((pe _ _ out).run [] s9 σ8 H9 _ (I9.toTry _) q9) fun z s10 ⟨yv, H10, I10, r10, acc, hD10, hz10, nx⟩ => ?_
      exact wpAny_mono (app_ok (E := fun _ _ => False) (X := X.blk s3 H3 scope ce fp) (I10.ofTry ok8) hD10 hz10 r10 fun s11 I11 => over I11 nx) (fun _ _ h => h) fun _ _ z => False.elim z
theorem lcX_core {pins : List (Addr × Obj)} {s : Shared} {σ : L2.St} {H : Hp} {E : XK} {Q : VK} {elt tg iter : Expr} {ifs : List Expr} {scope : Scope} {own : List (Str × Nat)} {pos pos' : Pos} {wi : TI} {g : TG} {tt : TT} {te : TE} {use : Option (Value → Sem Unit)} {Qf : Value → Shared → Prop}
    (hc : X.calm = true) (hN : X.N.Nodup) (hs : X.stack = X.env :: X.outer) (hf : X.env.frame = some X.env.locals) (tk : Takes X (fun cls d _ H => E cls d H)) (I : Inv X pins σ H s) (hi : PI X tg iter wi) (ok : BlkOk X.N X.env.scope scope own)
    (hg : ∀ (s : Shared) (H : Hp) (C : Addr) (cl : List (Str × Addr)) (fp : List Addr), PG (X.blk s H scope (compEnvC scope cl C X.env) fp) tg g) (ht : ∀ (s : Shared) (H : Hp) (C : Addr) (cl : List (Str × Addr)) (fp : List Addr), PTs (X.blk s H scope (compEnvC scope cl C X.env) fp) ifs tt)
    (he : ∀ (s : Shared) (H : Hp) (C : Addr) (cl : List (Str × Addr)) (fp : List Addr) (pn : List (Addr × Obj)) (xe : Value → Shared → Prop), Passes (CX X.prog X.w) ((X.blk s H scope (compEnvC scope cl C X.env) fp).tr pn xe) E → PE ((X.blk s H scope (compEnvC scope cl C X.env) fp).tr pn xe) elt te)
    (hfs : ∀ x, foldedSetIterable iter X.env x = pure x) (h : tLc wi g tt te (own.map (·.2)) σ H Q)
    (fin : ∀ D cl C s' m H', Inv X pins σ H' s' → Q (.ref D) H' → s'.heap.Ns C m → FpOk X pins H' C → compEnds (model X.prog X.w) X.A X.xe use Qf (.ref D) (compEnvC scope cl C X.env) (.ok .next) s') :
    wpAny (model X.prog X.w) X.A (comprehension (.ListComp elt [⟨tg, iter, ifs, 0⟩] scope pos) scope X.env pos' (newList []) false (eval iter X.env) use) Qf X.xe s := by
  have cells : ∀ y ∈ scope.names, y.2 = .free → ∃ c, X.env.cells.lookup y.1 = some c := fun y hy e => I.ok.has _ (ok.free y hy e)
  refine comprehension_at (use := use) rfl hfs (closure_ok cells) ok.kind (fun y hy e => by rw [ok.uniq y hy, e]) (thn (hi.run pins s σ H _ I h) fun xv s1 hx => thn hx fun itv s2 h2 => ?_)
  obtain ⟨it, fp, tn, J, H2, rfl, I2, T, st2, f2, q⟩ := h2
  refine wpAny_newObj_type (newEnv_comp ?_) (by show 0 ≤ sizeLine; decide)
  generalize hD : s2.heap.objs.size = D
  have nD : H2 D = none := I2.hok.fresh (Nat.le_of_eq hD)
  obtain ⟨W, ⟨m0, w0⟩, turn⟩ := q D nD
  generalize hs3 : ({ s2 with heap := s2.heap.push { cls := .type "list", data := .seq ([] : List Value).toArray } } : Shared) = s3
  have h3 : s3.heap = s2.heap.push { cls := .type "list", data := .seq ([] : List Value).toArray } := by rw [← hs3]
  have I3 : Inv X pins σ (upd H2 D (.lst [])) s3 := by
    rw [← hs3]
    exact I2.laid (t' := s2.toks) (fun b o e => Heap.get?_push_of_some _ e) (Nat.le_of_eq hD) ⟨Nat.zero_le _, [], 0, .nil, by rw [← hD]; exact Heap.get?_push_size _ rfl⟩
  have f3 : ∀ b ∈ fp, FpOk X pins (upd H2 D (.lst [])) b ∧ b < s3.heap.objs.size := fun b hb => by
    obtain ⟨o, e, _⟩ := T.obj _ _ st2 b hb
    have lt := Heap.lt_size e
    refine ⟨⟨?_, (f2 b hb).2⟩, by rw [h3, Heap.size_push]; exact Nat.lt_succ_of_lt lt⟩
    rw [upd_ne (by rw [← hD]; exact Nat.ne_of_lt lt)]
    exact (f2 b hb).1
  have st3 : tn 0 s3.heap := T.keep _ _ _ st2 fun b _ o e => by rw [h3]; exact Heap.get?_push_of_some _ e
  have I4 := block_start I3 ok hN f3
  have loop := block_loop (iter := iter) (pos := pos) (own := own) (E := E) (Q := Q) (use := use) (Qf := Qf) (D := D) (W := W) (m0 := m0) hc hs hf tk I3 (ce := compEnvC scope (cellsFrom (s3.heap.objs.size + 1) scope.names (cloFrom X.env.cells scope.names [])) s3.heap.objs.size X.env) rfl rfl f3 T (hg _ _ _ _ _) (ht _ _ _ _ _) (fun pn xe k => he _ _ _ _ _ pn xe k) I4
    (T.keep _ _ _ st3 fun b _ o e => pushCells_keeps _ _ _ _ (Heap.get?_push_of_some _ e)) (fun b hb => (f3 b hb).1.1) w0 turn fun s' m H' I' qq hn f => fin D _ _ s' m H' I' qq hn f
  exact codeAny_compStart_list loop (T.self X.A 0 _ _ _ (T.keep _ _ _ st3 fun b _ o e => pushCells_keeps _ _ _ _ (Heap.get?_push_of_some _ e)) loop)
/-- as a value -/
theorem pe_lcX {E : XK} {elt tg iter : Expr} {ifs : List Expr} {scope : Scope} {own : List (Str × Nat)} {pos : Pos} {wi : TI} {g : TG} {tt : TT} {te : TE} (hc : X.calm = true) (hN : X.N.Nodup) (hs : X.stack = X.env :: X.outer) (hf : X.env.frame = some X.env.locals) (tk : Takes X (fun cls d _ H => E cls d H)) (hi : PI X tg iter wi) (ok : BlkOk X.N X.env.scope scope own)
    (hg : ∀ (s : Shared) (H : Hp) (C : Addr) (cl : List (Str × Addr)) (fp : List Addr), PG (X.blk s H scope (compEnvC scope cl C X.env) fp) tg g) (ht : ∀ (s : Shared) (H : Hp) (C : Addr) (cl : List (Str × Addr)) (fp : List Addr), PTs (X.blk s H scope (compEnvC scope cl C X.env) fp) ifs tt)
    (he : ∀ (s : Shared) (H : Hp) (C : Addr) (cl : List (Str × Addr)) (fp : List Addr) (pn : List (Addr × Obj)) (xe : Value → Shared → Prop), Passes (CX X.prog X.w) ((X.blk s H scope (compEnvC scope cl C X.env) fp).tr pn xe) E → PE ((X.blk s H scope (compEnvC scope cl C X.env) fp).tr pn xe) elt te)
    (hfs : ∀ x, foldedSetIterable iter X.env x = pure x := by intro _; rfl) : PE X (.ListComp elt [⟨tg, iter, ifs, 0⟩] scope pos) (tLc wi g tt te (own.map (·.2))) := by
  refine ⟨fun pins s σ H Q I h => ?_⟩
  rw [eval_ListComp]
  refine lcX_core hc hN hs hf tk I hi ok hg ht he hfs h fun D cl C s' m H' I' q hn f => ⟨m, hn, fun h'' sb => ?_⟩
  obtain ⟨f0, f1, f2, f3, f4, f5⟩ := f
  exact ⟨.ref D, H', I'.turned (t' := s'.toks) (fun b o hb e => (sb.2 b hb).trans e) f0 f1 f3 f4 f5, rfl, q⟩
end
end MG

/-! MG: an exception caught under a name, and kept by another one behind the suite -/
namespace MG
open PySem PySem.Spec PyProof.Rows L2

/-- an exception of the class cls, without attributes, kept at a -/
def ExI (cls : Value) (a : Addr) : HO := .ext fun h => ∃ (oe : Obj) (vs : Array Value), h.get? a = some oe ∧ Zc cls none oe ∧ oe.data = .fields vs

section
variable {X : Cx} {pins : List (Addr × Obj)} {σ : L2.St} {H : Hp} {s : Shared}
/-- an object that came up behind the entry, and is nobody's, is known from now on -/
theorem known {a : Addr} {o : HO} {oe : Obj} {vs : Array Value} (I : Inv X pins σ H s) (at_ : s.heap.get? a = some oe) (record : oe.data = .fields vs) (off : H a = none)
    (late : X.s_0.heap.get? a = none) (nL : a ≠ X.env.locals) (np : ∀ p ∈ X.pn ++ pins, p.1 ≠ a) (new : ObjOk X.prog X.w (upd H a o) s.heap a o) : Inv X pins σ (upd H a o) s := by
  have elder : ∀ {b : Addr} {u : Obj}, X.s_0.heap.get? b = some u → upd H a o b = H b := fun {b u} e => upd_ne fun z => by
    rw [z, late] at e
    cases e
  have other : ∀ {b : Addr} {u : HO}, H b = some u → upd H a o b = some u := fun {b u} e => (upd_ne (ne_of_none e off)).trans e
  have notCell : ∀ {y : Str} {c : Addr}, X.env.cells.lookup y = some c → c ≠ a := fun {y c} e z => by
    obtain ⟨v, ob, ho, hd⟩ := I.cell y c e
    rw [z, at_] at ho
    rw [← Option.some.inj ho, record] at hd
    cases hd
  refine { I with
    base := ⟨I.base.keep, I.base.slot, fun b u e n x => (elder e).trans (I.base.free b u e n x), I.base.there, fun b xs q => other (I.base.tups b xs q), fun b u w q => other (I.base.frzs b u w q), fun b ps q => ?_⟩
    free := (upd_ne (Ne.symm nL)).trans I.free
    freeC := fun y c e => (upd_ne (notCell e)).trans (I.freeC y c e)
    pin := fun p hp => ?_
    hok := fun b u e => ?_ }
  · obtain ⟨more, q'⟩ := I.base.tbls b ps q
    exact ⟨more, other q'⟩
  · obtain ⟨p1, p2, p3⟩ := I.pin p hp
    exact ⟨p1, (upd_ne (np p hp)).trans p2, p3⟩
  · by_cases hb : b = a
    · subst hb
      rw [upd_same] at e
      rw [← Option.some.inj e]
      exact new
    · rw [upd_ne hb] at e
      exact (I.hok b u e).stay (fun c v _ q => q) (fun c q => other q) fun c xs q => other q

/-- an exception that the body lets out, looked at from the try: new, nobody's, and once it is on the ground the state is one of ours -/
theorem grounded {W : WX} {xe : Value → Shared → Prop} {u : Value} {s' : Shared} (ok : X.Ok) (hs : X.stack = X.env :: X.outer) (hf : X.env.frame = some X.env.locals) (hex : X.ex = [])
    (air : XE (X.tr (X.pn ++ pins) xe) W u s') :
    ∃ (a : Addr) (B : Heap) (cls : Value) (d : Option Addr) (σ' : L2.St) (H' : Hp), u = .ref a ∧ W cls d σ' H' ∧ H' a = none ∧ X.s_0.heap.get? a = none ∧ a ≠ X.env.locals ∧ a ∉ X.fs ∧ (∀ p ∈ X.pn ++ pins, p.1 ≠ a) ∧
      Sky B (X.env :: X.outer) a (Zc cls d) X.env.locals s'.heap ∧
      ∀ g, HandSPX.FlyingZ B (X.env :: X.outer) a (Zc cls d) g → s'.heap.UpToSlots g → Inv X pins σ' H' { s' with heap := g } := by
  obtain ⟨a, B, sI, pins', σ', H', cls, d, rfl, J', nb, up, sky, na, os, ag, w⟩ := air
  have sky1 : Sky B (X.env :: X.outer) a (Zc cls d) X.env.locals s'.heap := by rw [← hs]; exact sky
  have J : Inv X pins σ' H' sI := J'.ofTry ok
  have facts : B.get? a = none ∧ s'.heap.FunFrames B (X.env :: X.outer) ∧ ∃ oe vs, s'.heap.get? a = some oe ∧ oe.data = .fields vs := by
    rcases sky1 with ⟨_, n, ff, oe, vs, e, _, dd, _⟩ | ⟨_, n, ff, oe, vs, _, _, _, e, _, dd, _⟩ | ⟨_, n, ff, oe, vs, _, _, _, e, _, dd, _⟩ <;> exact ⟨n, ff, oe, vs, e, dd⟩
  obtain ⟨hB, ff, oe, vs, e, dd⟩ := facts
  have offFrames : a ∉ frs (X.env :: X.outer) := fun hm => by
    obtain ⟨_, o, eo, nf⟩ := ff.mem hm
    rw [e] at eo
    exact nf vs (by rw [← Option.some.inj eo]; exact dd)
  have notYet : sI.heap.get? a = none := by
    cases q : sI.heap.get? a with
    | none => rfl
    | some o =>
      have z := nb a o q (by rw [show (X.tr (X.pn ++ pins) xe).stack = X.env :: X.outer from hs]; exact offFrames)
      rw [hB] at z
      cases z
  refine ⟨a, B, cls, d, σ', H', rfl, w, na, ?_, fun z => offFrames ?_, fun hm => offFrames ?_, fun p hp z => ?_, sky1, fun g fl up' => J.landed nb fl.1 (up.trans up') os ag⟩
  · cases q : X.s_0.heap.get? a with
    | none => rfl
    | some o =>
      obtain ⟨o', q'⟩ := J.base.there a o q (by rw [hex]; exact List.not_mem_nil)
      rw [notYet] at q'
      cases q'
  · exact List.mem_filterMap.mpr ⟨X.env, List.mem_cons_self, by rw [hf, z]⟩
  · obtain ⟨v, hv, q⟩ := List.mem_filterMap.mp hm
    exact List.mem_filterMap.mpr ⟨v, List.mem_cons_of_mem _ hv, q⟩
  · have q := (J.pin p hp).1
    rw [z, notYet] at q
    cases q
end

/-- what is wished of an exception of the body, where the suite keeps it: it is of the clause's class; behind the suite it is known -/
def wKeep (K : PySem.W.Frag) (c : Value) (i : Nat) (ts : Addr → Value → TS) (D : Ends) : WX := fun cls d σ H =>
  d = none ∧ PySem.W.exmOne K cls c = some true ∧ ∀ a, H a = none →
    ts a cls { nx := fun σ' H' => H' a = none → D.nx (σ'.set i none) (upd H' a (ExI cls a)), rt := fun _ _ => False, bk := fun _ _ => False, ct := fun _ _ => False } (σ.set i (some (.ref a))) H

section
variable {X : Cx} {x n : Str} {c : Value} {i : Nat} {body suite : List Stmt} {b₀ : Stmt} {np pos pos' : Pos} {tb : WX → TS} {ts : Addr → Value → TS}
/-- try: body, except x as n: suite, where the suite keeps what it caught -/
theorem ps_try_keep (hs : X.stack = X.env :: X.outer) (hf : X.env.frame = some X.env.locals) (hex : X.ex = []) (hN : X.N.Nodup) (hi : X.N[i]? = some n) (hln : X.env.kindOf n = some .local) (hc : Names X x c)
    (hb : ∀ (W : WX) (pn : List (Addr × Obj)) (xe : Value → Shared → Prop), Takes (X.tr pn xe) W → PassesOwn (model X.prog X.w) X.A X.env xe → PSs (X.tr pn xe) body (tb W))
    (hsu : ∀ (a : Addr) (oe : Obj) (cls : Value) (pn : List (Addr × Obj)), Zc cls none oe → (∃ vs, oe.data = .fields vs) → PSs (X.suite a ((a, oe) :: pn)) (b₀ :: suite) (ts a cls)) :
    PS X (.Try body [.ExceptHandler (some (.Name x np)) (some n) (b₀ :: suite) pos'] [] [] pos) (fun D σ H => tb (wKeep X.K c i ts D) D σ H) := by
  refine ⟨fun pins s σ H D I h => wpAny_Try_except ?_⟩
  have ok := I.ok
  have frames : X.A.frames = some (X.env :: X.outer) := ok.frames.trans (by rw [hs])
  refine wpAny_mono ((hb (wKeep X.K c i ts D) (X.pn ++ pins) _ (fun u s' air => ?_) PassesOwn.looking).run [] s σ H D (I.toTry _) h) (fun f s1 out => ?_) fun _ _ z => z
  rotate_left
  · have same : SP X pins D f s1 := by
      cases f with
      | ret u => exact let ⟨v, σ', H', J, q⟩ := out; ⟨v, σ', H', J.ofTry ok, q⟩
      | next => exact let ⟨σ', H', J, q⟩ := out; ⟨σ', H', J.ofTry ok, q⟩
      | brk => exact let ⟨σ', H', J, q⟩ := out; ⟨σ', H', J.ofTry ok, q⟩
      | cont => exact let ⟨σ', H', J, q⟩ := out; ⟨σ', H', J.ofTry ok, q⟩
    cases f with
    | next => exact wpAny_execs_nil same
    | ret u => exact same
    | brk => exact same
    | cont => exact same
  · obtain ⟨a, B, cls, d, σ', H', rfl, ⟨rfl, matches_, go⟩, na, late, nL, nF, np', sky, ours⟩ := grounded ok hs hf hex air
    refine Sky.land Zc.steady frames hf sky fun g fl up => ?_
    have J := ours g fl up
    obtain ⟨o1, vs1, e1, z1, d1⟩ := fl.there
    have J1 := J.suite e1 d1 na nL nF
    refine wpAny_handleBy_cons (codeAny_handlers_test ?_) (fun z => nomatch z)
    have kind : PySem.W.Looks (model X.prog X.w) g (typeOf (.ref a)) cls := fun _ _ _ _ k q => wpAny_typeOf_ref (k _ _ e1) (by rw [z1.1]; exact q)
    have named : ∀ {Q E : Value → Shared → Prop}, Q c { s' with heap := g } → wpAny (model X.prog X.w) (X.A.mark (some (.ref a))) (eval (.Name x np) X.env) Q E { s' with heap := g } := by
      intro Q E q
      obtain ⟨hg, hdbg, hm | ⟨hm, hv, hnn⟩⟩ := hc
      · exact ld_glob (X := X.suite a ((a, o1) :: (X.pn ++ pins))) J1 hg hm q hdbg
      · exact ld_blt (X := X.suite a ((a, o1) :: (X.pn ++ pins))) J1 hg hm hv q hnn hdbg
    refine named ((PySem.W.exm_one J.kIn kind matches_).here (codeAny_handlers_suite_as ?_))
    refine HandSPX.lands_againZ fl fun g2 fl2 up2 => ?_
    obtain ⟨o2, vs2, e2, z2, d2⟩ := fl2.there
    have J2 := (ours g2 fl2 (up.trans up2)).suite e2 d2 na nL nF
    refine store_ok (X := X.suite a ((a, o2) :: (X.pn ++ pins))) (v := .ref a) J2 hN hi (.inl hln) rfl (fun s3 J3 => ?_) (.inr hln)
    refine wpAny_mono ((hsu a o2 cls (X.pn ++ pins) z2 ⟨_, d2⟩).run [] s3 _ H' _ J3 (go a na)) (fun f s4 out => ?_) fun _ _ z => False.elim z
    cases f with
    | ret u => exact let ⟨_, _, _, _, _, z⟩ := out; z.elim
    | brk => exact let ⟨_, _, _, z⟩ := out; z.elim
    | cont => exact let ⟨_, _, _, z⟩ := out; z.elim
    | next =>
      obtain ⟨σ4, H4, J4, want⟩ := out
      obtain ⟨e4, n4, _⟩ := J4.pin (a, o2) (List.mem_append_left _ List.mem_cons_self)
      have J5 : Inv X pins σ4 H4 s4 := J4.unsuite ok
      have J6 := known (o := ExI cls a) J5 e4 d2 n4 late nL np' ⟨⟨o2, vs2, e4, z2, d2⟩, ⟨o2, e4⟩, fun _ _ ⟨u, us, q, r⟩ k => ⟨u, us, k u q, r⟩⟩
      exact gone_ok J6 hN hi hln fun s7 J7 => ⟨_, _, J7, want n4⟩
end
end MG

/-! MG: the end of a law whose defs make lambdas: the tables of code objects are known from the start on. -/
namespace MG
open PySem PySem.Spec PyProof.Rows L2 LamX
abbrev tabO : Obj := { cls := .none, data := .fields #[] }
/-- known at the start: the tables, and the script where it is no constant -/
def startH (cs : List (Addr × Addr)) (a : Addr) (script : Option HO) : Hp := fun b => if b ∈ cs.map Prod.snd then some (.tbl #[]) else if b = a then script else none
theorem startH_tab {cs : List (Addr × Addr)} {a : Addr} {script : Option HO} {p : Addr × Addr} (h : p ∈ cs) : startH cs a script p.2 = some (.tbl #[]) := if_pos (List.mem_map_of_mem h)
theorem startH_some {cs : List (Addr × Addr)} {a b : Addr} {script : Option HO} {u : HO} (h : startH cs a script b = some u) : ((∃ p ∈ cs, p.2 = b) ∧ u = .tbl #[]) ∨ (b = a ∧ script = some u) := by
  unfold startH at h
  split at h
  · next hb => exact .inl ⟨List.mem_map.mp hb, (Option.some.inj h).symm⟩
  · split at h
    · next hb => exact .inr ⟨hb, h⟩
    · cases h
theorem lawGT {P : Program} {w : World} {K : PySem.W.Frag} {mg mb : Str → Option Value} {k : Nat} {fa a : Addr} {cs : List (Addr × Addr)} {fd : FuncData} {x : Str}
    {sp : Sp} {s₁ : Shared} {vs : List Value} {ns : List Int}
    (KX : K.In s₁.heap) (hns : s₁.heap.Ns mainGlobals mg) (hb : s₁.heap.Ns builtinsNs mb)
    (hbb : ∀ x : Str, x ≠ "__name__" → mb x = bootBuiltins x) (hlim : s₁.heap.NoLimit) (hsys : SysD s₁.heap) (hg : s₁.gens = #[])
    (tabs : ∀ p ∈ cs, s₁.heap.get? p.2 = some tabO) (free : ∀ p ∈ cs, K.lookup p.2 = none) (codes : ∀ p ∈ cs, PySem.W.CodeHd s₁.heap p.1 p.2)
    (main : ∃ (bm : Addr) (ob : Obj), mg "__builtins__" = some (.ref bm) ∧ bm ≠ builtinsNs ∧ s₁.heap.get? bm = some ob ∧ ob.cls = .type "module" ∧ ob.dict = some builtinsNs ∧ ob.data = .plain)
    (ha : s₁.heap.get? a = some { cls := .type "list", data := .seq vs.toArray }) (hi : IntsAre vs ns)
    (hl : ns.length ≤ sizeLine) (hr : Room k callerA)
    (F : ∀ base : Heap, K.In base → base.Ns mainGlobals mg → SysD base → (∀ p ∈ cs, TabB base mg p.1 p.2) → FnG P w K mg base k fa fd [x] sp)
    (hbind : ∀ (s : Shared) (u : Value), BindsTo s fd ⟨[u], []⟩ [(x, u)])
    (hsp : ∀ H : Hp, (∀ p ∈ cs, H p.2 = some (.tbl #[])) → SqL K H a (ns.map V.int) → sp [.ref a] H (fun v _ => v = .bl true) fun _ _ _ => False) :
    codeAny (model P w) callerA (.call (.ref fa) ⟨[.ref a], []⟩)
      (fun r s' => r = .ok (.ret (.bool true)) ∧ OldK s₁.heap s'.heap ∧ s'.os = s₁.os ∧ AllBare s'.gens) s₁ := by
  have script : ∃ sc : Option HO, (∀ u, sc = some u → K.lookup a = none ∧ u = .frz { cls := .type "list", data := .seq vs.toArray } (.lst (ns.map V.int))) ∧ SqL K (startH cs a sc) a (ns.map V.int) := by
    cases look : K.lookup a with
    | some o =>
      have e := KX a o look
      rw [ha] at e
      obtain rfl := Option.some.inj e
      exact ⟨none, (fun u z => nomatch z), .inr ⟨_, vs.toArray, _, look, rfl, rfl, rfl, by rw [List.size_toArray, hi.length]; exact hl, by simpa using vals_ints hi⟩⟩
    | none =>
      refine ⟨some (.frz { cls := .type "list", data := .seq vs.toArray } (.lst (ns.map V.int))), fun u z => ⟨rfl, (Option.some.inj z).symm⟩, .inl (.inr ⟨({ cls := .type "list", data := .seq vs.toArray } : Obj), ?_⟩)⟩
      have off : a ∉ cs.map Prod.snd := by
        intro z
        obtain ⟨p, hp, e⟩ := List.mem_map.mp z
        have q := tabs p hp
        rw [e, ha] at q
        exact nomatch (show Data.seq vs.toArray _ = Data.fields #[] from congrArg Obj.data (Option.some.inj q))
      unfold startH
      rw [if_neg off, if_pos rfl]
  obtain ⟨sc, known, sq⟩ := script
  have atTab : ∀ p ∈ cs, startH cs a sc p.2 = some (.tbl #[]) := fun p hp => startH_tab hp
  generalize hH : startH cs a sc = H at sq atTab
  have what : ∀ {b : Addr} {u : HO}, H b = some u → ((∃ p ∈ cs, p.2 = b) ∧ u = .tbl #[]) ∨ (b = a ∧ K.lookup a = none ∧ u = .frz { cls := .type "list", data := .seq vs.toArray } (.lst (ns.map V.int))) := by
    intro b u h
    rw [← hH] at h
    rcases startH_some h with z | ⟨e, z⟩
    · exact .inl z
    · exact .inr ⟨e, known u z⟩
  have ok : HOk P w H s₁.heap := by
    intro b u h
    rcases what h with ⟨⟨p, hp, rfl⟩, rfl⟩ | ⟨rfl, _, rfl⟩
    · exact tabs p hp
    · exact ⟨ha, by rw [List.length_map]; exact hl, vs, _, vals_ints hi, ha⟩
  -- all that is neither a list nor an empty table is in sight
  have seen : ∀ {b : Addr} {o : Obj}, s₁.heap.get? b = some o → (∀ xs n, o.data ≠ .seq xs n) → o.data ≠ .fields #[] → (hidT s₁.heap H).get? b = some o := by
    intro b o e d1 d2
    refine hidT_get e ?_
    cases q : H b with
    | none => rfl
    | some u =>
      rcases what q with ⟨⟨p, hp, rfl⟩, _⟩ | ⟨rfl, _⟩
      · rw [tabs p hp] at e
        exact absurd (by rw [← Option.some.inj e]) d2
      · rw [ha] at e
        exact absurd (by rw [← Option.some.inj e]) (d1 vs.toArray _)
  have names : ∀ {b : Addr} {m : Str → Option Value}, s₁.heap.Ns b m → (hidT s₁.heap H).Ns b m := by
    rintro b m ⟨o, es, ep, e, d, r⟩
    exact ⟨o, es, ep, seen e (fun xs n z => nomatch (d.symm.trans z)) (fun z => nomatch (d.symm.trans z)), d, r⟩
  have kIn : K.In (hidT s₁.heap H) := by
    intro b o look
    refine hidT_get (KX b o look) ?_
    cases q : H b with
    | none => rfl
    | some u =>
      rcases what q with ⟨⟨p, hp, rfl⟩, _⟩ | ⟨rfl, z, _⟩
      · rw [free p hp] at look; cases look
      · rw [z] at look; cases look
  have makers : ∀ p ∈ cs, TabB (hidT s₁.heap H) mg p.1 p.2 := by
    intro p hp
    refine ⟨?code, ?bm, ?gP⟩
    case code =>
      obtain ⟨o, us, file, tf, flags, tg, inF, text, tt, e, c, d, rest⟩ := codes p hp
      refine ⟨o, us, file, tf, flags, tg, inF, text, tt, seen e (fun xs n z => nomatch (d.symm.trans z)) (fun z => ?_), c, d, rest⟩
      have := Data.fields.inj (d.symm.trans z)
      subst this
      exact nomatch rest.1
    case bm =>
      obtain ⟨bm, ob, b1, b2, b3, b4, b5, b6⟩ := main
      refine ⟨bm, ob, b1, b2, fun z => ?_, fun z => ?_, seen b3 (fun xs n z => nomatch (b6.symm.trans z)) (fun z => nomatch (b6.symm.trans z)), b4, b5, b6⟩
      · obtain ⟨o, es, ep, e, d, _⟩ := hns
        rw [← z, b3] at e
        exact nomatch (b6.symm.trans ((congrArg Obj.data (Option.some.inj e)).trans d))
      · have e := tabs p hp
        rw [← z, b3] at e
        exact nomatch (b6.symm.trans (congrArg Obj.data (Option.some.inj e)))
    case gP =>
      intro z
      obtain ⟨o, es, ep, e, d, _⟩ := hns
      rw [z, tabs p hp] at e
      exact nomatch ((congrArg Obj.data (Option.some.inj e)).trans d)
  have modl : Mod K mg (hidT s₁.heap H) := by
    obtain ⟨mc, l1, l2⟩ := hlim
    exact ⟨kIn, names hns, ⟨mb, names hb, hbb⟩, ⟨mc, names l1, l2⟩⟩
  have e0 : Env0 P w K mg (hidT s₁.heap H) callerA [] s₁ H :=
    { frames := rfl, mod := modl, bs := fun b o q => of_hidT q, bsz := Nat.le_of_eq (hidT_size _ _), funs := trivial
      frf := fun b hb => absurd (show b ∈ ([] : List Addr) from hb) List.not_mem_nil, hok := ok, bare := .of_eq hg }
  have sysD : SysD (hidT s₁.heap H) := let ⟨mm, q⟩ := hsys; ⟨mm, names q⟩
  refine codeAny_mono ((F _ kIn (names hns) sysD makers).run callerA [] s₁ H ⟨[.ref a], []⟩ [.ref a] [.ref a] _ _ rfl hr e0 (hbind s₁ (.ref a)) (.cons rfl .nil) (hsp H atTab sq)) ?_
  intro r s' out
  match r, out with
  | .ok (.ret u), out =>
    obtain ⟨v, H', hos, hbare, un, ok', rel, rfl⟩ := out
    obtain rfl : u = Value.bool true := rel
    have grown : ∀ p ∈ cs, ∃ more : Array Value, s'.heap.get? p.2 = some { cls := .none, data := .fields more } := by
      intro p hp
      obtain ⟨more, q⟩ := un.tbls p.2 #[] (atTab p hp)
      exact ⟨_, ok' p.2 _ q⟩
    have kept : ∀ {b : Addr} {o : Obj}, (¬ ∃ p ∈ cs, p.2 = b) → s₁.heap.get? b = some o → s'.heap.get? b = some o := by
      intro b o nb e
      cases q : H b with
      | none => exact un.keep b o e q (fun z => absurd (show b ∈ ([] : List Addr) from z) List.not_mem_nil) List.not_mem_nil
      | some u =>
        rcases what q with ⟨z, _⟩ | ⟨_, _, rfl⟩
        · exact absurd z nb
        · have now := (ok' b _ (un.frzs b _ _ q)).1
          have then_ := (ok b _ q).1
          rw [then_] at e
          rw [now]
          exact e
    refine ⟨rfl, ⟨fun b o e => ?_, fun b o e => ?_⟩, hos, hbare⟩
    · by_cases z : ∃ p ∈ cs, p.2 = b
      · obtain ⟨p, hp, rfl⟩ := z
        obtain ⟨more, q⟩ := grown p hp
        have t := tabs p hp
        rw [t] at e
        obtain rfl := Option.some.inj e
        exact .inr (.inl ⟨((codes p hp).tab t).isCodeTable, rfl, #[], more, rfl, by rw [Array.empty_append]; exact q⟩)
      · exact .inl (kept z e)
    · by_cases z : ∃ p ∈ cs, p.2 = b
      · obtain ⟨p, hp, rfl⟩ := z
        obtain ⟨more, q⟩ := grown p hp
        exact ⟨_, q⟩
      · exact ⟨o, kept z e⟩
/-- the walk of a law whose defs make lambdas -/
theorem walkGT {l : PySem.W.OpenLaw} {n k : Nat} {q : Program} {loose : List Str} {XP : (Str → Option Value) → Heap → Prop}
    {YP : World → Heap → Prop} {d : DefRec} {K : Params → PySem.W.Frag} {x : Str}
    (hn : l.most = some n) (hn2 : n ≤ sizeLine) (hdf : d.params.defaults = []) (hr : Room k callerA) (hq : importsNone q = true)
    (hY : ∀ (w : World) (h : Heap), YP w h → (K w.params).In h)
    (F : ∀ (w : World) (mg : Str → Option Value) (fa : Addr) (h : Heap), YP w h → (K w.params).In h → h.Ns mainGlobals mg → mg d.name = some (.ref fa) →
      ∃ (fd : FuncData) (cs : List (Addr × Addr)) (sp : Sp), (∀ p ∈ cs, h.get? p.2 = some tabO) ∧ (∀ p ∈ cs, (K w.params).lookup p.2 = none) ∧ (∀ p ∈ cs, PySem.W.CodeHd h p.1 p.2) ∧
        (∀ (s : Shared) (u : Value), BindsTo s fd ⟨[u], []⟩ [(x, u)]) ∧
        (∀ (H : Hp) (a : Addr) (ns : List Int), ns.length ≤ n → (∀ p ∈ cs, H p.2 = some (.tbl #[])) → SqL (K w.params) H a (ns.map V.int) → sp [.ref a] H (fun v _ => v = .bl true) fun _ _ _ => False) ∧
        ∀ base : Heap, (K w.params).In base → base.Ns mainGlobals mg → SysD base → (∀ p ∈ cs, TabB base mg p.1 p.2) → FnG l.prog w (K w.params) mg base k fa fd [x] sp) :
    PySem.W.WalkO q loose XP YP l.row.toRowW d [] (fun f vs => PySem.call f vs) := by
  refine Att.attach_call hn hdf ?_
  intro w s₀ s₁ mg mb fa o pm cd doc a vs ns G Y _ _ _ hmg hobj hints hlen hg
  have KX := hY w _ Y
  obtain ⟨fd, cs, sp, t1, t2, t3, hbd, hsp, hF⟩ := F w mg fa _ Y KX G.T.g hmg
  exact lawGT KX G.T.g G.T.b G.T.builtins G.T.nolimit (let ⟨mm, q, _⟩ := (G.T.seer hq).mods; ⟨mm, q⟩) hg t1 t2 t3 G.T.bmain hobj hints (Nat.le_trans hlen hn2) hr hF hbd
    (fun H hT hS => hsp H a ns hlen hT hS)
end MG

/-! MG: sorted(t, key=lambda p: ..) of a tuple of whole numbers; the lambda is held as a def within a def that has no rows. -/
namespace MG
open PySem PySem.Spec PyProof.Rows L2 LamX NdefX

abbrev lamOf (X : Cx) (params : Arguments) (scope : Scope) (c : Addr) : NF :=
  { name := "<lambda>", qual := X.env.qual ++ "<lambda>", params := params, body := [], scope := scope,
    cl := cloFrom X.env.cells scope.names [], c := c }
abbrev lamObj (X : Cx) (params : Arguments) (body : Expr) (scope : Scope) (pm : Value) (c : Addr) (ct : Value) : Obj :=
  PySem.W.kla_obj "<lambda>" (X.env.qual ++ "<lambda>") params body scope (cloFrom X.env.cells scope.names []) pm c ct
abbrev lamCtx (X : Cx) (N : List Str) (params : Arguments) (scope : Scope) (f c : Addr) (A : Around) (s : Shared) (H : Hp) : Cx :=
  ncx CX0 X.prog X.w X.K X.mg X.base N (lamOf X params scope c) f A X.stack s H (fun _ _ _ => False)

section one
variable {X : Cx} {pins : List (Addr × Obj)} {σ : L2.St} {H : Hp} {s : Shared} {A : Around}

end one
end MG

/-! MG: objects of a built-in's own that are pinned, changed, and at last known to the reading. -/
namespace MG
open PySem PySem.Spec PyProof.Rows L2

section pin
variable {X : Cx} {pins : List (Addr × Obj)} {σ : L2.St} {H : Hp} {s : Shared}
end pin

end MG

/-! MG: a list sorted by keys that a function of ours tells. -/
namespace MG
open PySem PySem.Spec PyProof.Rows L2 LamX NdefX
open PySem.W (EachIs)

/-- the numbers, sorted by g, alike ones as they stood -/
def srt (g : Int → Int) (ns : List Int) : List Int := ns.mergeSort fun x y => decide (g x ≤ g y)
def IsI (u : Value) (n : Int) : Prop := RelV (.int n) u
section
variable {X : Cx} {pins : List (Addr × Obj)} {σ : L2.St} {H : Hp} {A : Around} {E : Value → Shared → Prop} {P : PySem.Fin → Shared → Prop}
abbrev lstO (xs : Array Value) (n : Nat) : Obj := seqObj "list" xs n
/-- what f tells of n is g n, whatever of ours is pinned, and nothing changes -/
def Tells (X : Cx) (A : Around) (σ : L2.St) (H : Hp) (f : Addr × Obj) (g : Int → Int) (ns : List Int) : Prop :=
  ∀ n ∈ ns, ∀ (u : Value) (ps : List (Addr × Obj)) (s : Shared), IsI u n → f ∈ ps → Inv X ps σ H s →
    wpAny (model X.prog X.w) A (call (.ref f.1) [u]) (EP X ps σ fun v H' => H' = H ∧ v = .int (g n)) (fun _ _ => False) s
end
end MG

/-! MG: the rule for sorted(t, key=lambda p: body), t a tuple of whole numbers. -/
namespace MG
open PySem PySem.Spec PyProof.Rows L2 LamX NdefX
open PySem.W (EachIs)
section
variable {X : Cx} {pins : List (Addr × Obj)} {σ : L2.St} {H : Hp} {A : Around} {E : Value → Shared → Prop} {P : PySem.Fin → Shared → Prop}
end

/-- the reading: the tuple, the tables, then of each number what the body tells, nothing changed -/
def rSortLam (K : PySem.W.Frag) (T : List (Addr × Str)) (N : List Str) (js : List Nat) (tb : TE) (σ : L2.St) (Q : VK) : List V → Hp → Prop
  | [x], H1 => ∃ (a : Addr) (ns : List Int) (g : Int → Int), x = .ref a ∧ H1 a = some (.tup (ns.map V.int)) ∧ Tabs T H1 ∧
      ∀ H2, ExtN H1 H2 → Tabs T H2 → (∀ n ∈ ns, tb (startF N [.int n] (js.map (slotAt σ))) H2 fun v H' => H' = H2 ∧ v = .int (g n)) ∧
        ∀ q, H2 q = none → Q (.ref q) (upd H2 q (.lst ((srt g ns).map V.int)))
  | _, _ => False
def tSortLam (K : PySem.W.Frag) (T : List (Addr × Str)) (N : List Str) (js : List Nat) (te tb : TE) : TE := fun σ H Q => te σ H fun x H1 => rSortLam K T N js tb σ Q [x] H1
end MG

/-! MG: a def whose code object is known; tables kept -/
namespace MG
open PySem PySem.Spec PyProof.Rows L2 LamX NdefX
section
variable {P : Program} {w : World} {K : PySem.W.Frag} {mg : Str → Option Value} {base : Heap}
end
/-! ### tables -/
theorem ext_same {H H' : Hp} (s : Same H H') : ExtN H H' := fun b o h _ => s b o h
theorem extTup {H H' : Hp} (e : ExtN H H') {a : Addr} {xs : List V} (h : H a = some (.tup xs)) : H' a = some (.tup xs) := e a _ h fun ps z => nomatch z
theorem extLst {H H' : Hp} (e : ExtN H H') {a : Addr} {xs : List V} (h : H a = some (.lst xs)) : H' a = some (.lst xs) := e a _ h fun ps z => nomatch z
/-- all but the box and the tables stay -/
def SXN (b : Addr) (H H' : Hp) : Prop := ∀ a o, a ≠ b → H a = some o → (∀ ps, o ≠ .tbl ps) → H' a = some o
theorem SXN.refl (b : Addr) (H : Hp) : SXN b H H := fun _ _ _ h _ => h
theorem SXN.trans {b : Addr} {H H1 H2 : Hp} (x : SXN b H H1) (y : SXN b H1 H2) : SXN b H H2 := fun a o n h z => y a o n (x a o n h z) z
theorem SXN.of {b : Addr} {H H' : Hp} (s : ∀ a o, a ≠ b → H a = some o → H' a = some o) : SXN b H H' := fun a o n h _ => s a o n h
theorem SXN.ofExt {b : Addr} {H H' : Hp} (s : ExtN H H') : SXN b H H' := fun a o _ h z => s a o h z
/-- tables stay where a list alone is written -/
theorem tabsOff {T : List (Addr × Str)} {b : Addr} {H H' : Hp} {xs : List V} (t : Tabs T H) (hb : H b = some (.lst xs)) (s : ∀ a o, a ≠ b → H a = some o → H' a = some o) : Tabs T H' := by
  intro p hp
  obtain ⟨ps, e, ok, all⟩ := t p hp
  refine ⟨ps, s _ _ (fun z => by rw [z, hb] at e; cases e) e, ok, fun pos cv h => ?_⟩
  obtain ⟨c, ec, hc⟩ := all pos cv h
  exact ⟨c, ec, s _ _ (fun z => by rw [z, hb] at hc; cases hc) hc⟩
end MG

/-! MG: isinstance of a kept exception, or of anything else -/
namespace MG
open PySem PySem.Spec PyProof.Rows L2
/-- a value's type: that of a kept exception too -/
inductive TyE (K : PySem.W.Frag) (H : Hp) : V → Value → Prop where
  | other {x : V} {t : Value} (h : TyX K H x t) : TyE K H x t
  | exc {a D : Addr} (C : ExcC K D) (e : H a = some (ExI (.ref D) a)) : TyE K H (.ref a) (.ref D)
section
variable {X : Cx} {pins : List (Addr × Obj)} {σ : L2.St} {H : Hp} {s : Shared}
theorem kit_e {x : V} {u t : Value} (I : Inv X pins σ H s) (rx : RelV x u) (ty : TyE X.K H x t) :
    ∃ P : Heap → Prop, PySem.W.KitX X.K u t P ∧ P s.heap ∧ u ≠ .builtin "__main__.__loader__#opaque" := by
  cases ty with
  | other h => exact kit_of I rx h
  | @exc a D C e =>
    obtain rfl : u = Value.ref a := rx
    obtain ⟨⟨oe, vs, at_, z, dd⟩, _, _⟩ := I.hok a _ e
    refine ⟨_, PySem.W.handS_kitx_exc (ox := oe) C.hg C.hk C.hs C.hd C.ha C.hn C.ht C.hm, ?_, fun z => nomatch z⟩
    refine ⟨at_, z.1, ?_, ?_⟩
    · unfold PySem.W.notCls
      rw [dd] <;> trivial
    · rw [z.2] <;> trivial
end
/-- isinstance(x, c) -/
def rIsO (K : PySem.W.Frag) : List V → Hp → VK → Prop := fun xs H Q => ∃ (x c : V) (t u : Value) (b : Bool), xs = [x, c] ∧ ClsV c u ∧ TyE K H x t ∧ PySem.W.kitOne K t u = some b ∧ Q (.bl b) H
/-- isinstance(x, (c, ..)) -/
def rIsOT (K : PySem.W.Frag) : List V → Hp → VK → Prop := fun xs H Q => ∃ (x : V) (tp : Addr) (cs : List V) (t : Value) (us : List Value) (b : Bool), xs = [x, .ref tp] ∧ H tp = some (.tup cs) ∧ Paired ClsV cs us ∧ TyE K H x t ∧ PySem.W.kitAny K t us = some b ∧ Q (.bl b) H
section
variable {X : Cx}
theorem call_isO : CallR X (.builtin "isinstance") (rIsO X.K) := by
  rintro pins s σ H xs us Q I r ⟨x, c, t, u, b, rfl, cls, ty, ans, q⟩
  obtain ⟨v1, v2, rfl, r1, r2⟩ := vals2 r
  obtain rfl := cls.eq r2
  obtain ⟨P, kit, holds, notL⟩ := kit_e I r1 ty
  exact PySem.W.kia_one kit I.kIn holds ans notL fun tk => ⟨.bl b, H, I.tok tk, rfl, q⟩
end
end MG
namespace MG
open PySem PySem.Spec PyProof.Rows L2
/-- what is known of an own exception class that is raised with a text -/
structure ExcF (K : PySem.W.Frag) (mg : Str → Option Value) (x : Str) (C : Addr) : Prop where
  g : mg x = some (.ref C)
  x : PySem.W.excIn K C [.type "ValueError", .type "Exception", .type "BaseException", .type "object"] "ValueError.__new__" = true
  k : PySem.W.keepIn K (.ref C) = true
  b : PySem.W.subIn K (.ref C) (.type "BaseException") = some true
  t : PySem.W.typeIn K (.ref C) = some (.type "type")
/-- raise X("..") -/
theorem ps_raiseX {X : Cx} {W : WX} {C : Addr} {x m : Str} {j : Nat} {p p2 pos pos2 : Pos} (hc : X.calm = true) (tk : Takes X W) (F : ExcF X.K X.mg x C) (hg : Gl X x) (hdb : (x == ("__debug__" : Str)) = false := by decide) :
    PS X (.Raise (some (.Call (.Name x p) [.Constant (.str m) j p2] [] pos)) none pos2) (fun _ σ H => W (.ref C) none σ H) :=
  ps_raise hc tk (pmk_own PySem.F.excBase_ValueError F.x F.g F.k (raises_own F.b F.t) hg hdb)
end MG
namespace MG
open PySem PySem.Spec PyProof.Rows L2
/-- the slots of an exception's state are as many as the names -/
theorem takes_len {X : Cx} {W : WX} (t : Takes X W) : Takes X (fun cls d σ H => σ.length = X.N.length → W cls d σ H) := fun u s' ⟨a, B, sI, pins, σ, H, cls, d, e, I, nb, up, sky, na, os, ag, w⟩ =>
  t u s' ⟨a, B, sI, pins, σ, H, cls, d, e, I, nb, up, sky, na, os, ag, w I.len⟩
end MG
namespace MG
end MG

/-! MG: what can be shown (repr), by data alone; amounts -/
namespace MG
open PySem PySem.Spec PyProof.Rows L2
def Sh (n c : Nat) (d : PyData) : Prop := d.showable = true ∧ d.depth ≤ n ∧ d.shown.length ≤ c
theorem Sh.le {n c n' c' : Nat} {d : PyData} (h : Sh n c d) (hn : n ≤ n') (hc : c ≤ c') : Sh n' c' d := ⟨h.1, Nat.le_trans h.2.1 hn, Nat.le_trans h.2.2 hc⟩
theorem Sh.int {i : Int} (h : i.natAbs < 2 ^ 300) : Sh 0 301 (.int i) := by
  refine ⟨?_, Nat.le_refl _, int_len (by decide) h⟩
  show decide (i.natAbs.log2 < 1920) = true
  refine decide_eq_true ?_
  by_cases h0 : i.natAbs = 0
  · rw [h0]; decide
  · exact Nat.lt_of_lt_of_le ((Nat.log2_lt h0).mpr h) (by decide)
theorem Sh.str (x : Str) {c : Nat} (h : (reprText x).length ≤ c) : Sh 0 c (.str x) := ⟨rfl, Nat.le_refl _, h⟩
theorem Sh.none : Sh 0 4 .none := ⟨rfl, Nat.le_refl _, by decide +kernel⟩
theorem shs {n c : Nat} : ∀ {ds : List PyData}, (∀ d ∈ ds, Sh n c d) → PyData.showableAll ds = true ∧ PyData.depthAll ds ≤ n ∧ piled (PyData.shownAll ds) ≤ ds.length * (c + 2)
  | [], _ => ⟨rfl, Nat.zero_le _, by rw [PyData.shownAll, piled_nil]; exact Nat.zero_le _⟩
  | d :: ds, h => by
    obtain ⟨b, e, f⟩ := h d List.mem_cons_self
    obtain ⟨b2, e2, f2⟩ := shs (ds := ds) fun y hy => h y (List.mem_cons_of_mem _ hy)
    refine ⟨?_, ?_, ?_⟩
    · rw [PyData.showableAll, b, b2]; rfl
    · rw [PyData.depthAll]; exact Nat.max_le.mpr ⟨e, e2⟩
    · rw [PyData.shownAll, piled_cons, List.length_cons, Nat.add_mul, Nat.one_mul]
      omega
theorem Sh.tup {n c m : Nat} {ds : List PyData} (h : ∀ d ∈ ds, Sh n c d) (hm : ds.length ≤ m) : Sh (n + 1) (m * (c + 2) + 3) (.tuple ds) := by
  obtain ⟨b1, e1, f1⟩ := shs h
  refine ⟨b1, Nat.succ_le_succ e1, ?_⟩
  have h1 := tupleText_le (PyData.shownAll ds)
  have h2 : ds.length * (c + 2) ≤ m * (c + 2) := Nat.mul_le_mul_right _ hm
  show (tupleText (PyData.shownAll ds)).length ≤ _
  omega
theorem Sh.row {r : List Int} (h : ∀ n ∈ r, 0 ≤ n ∧ n < 2 ^ 250) (hl : r.length ≤ 40) : Sh 1 (40 * 303 + 3) (rowDt r) := by
  refine Sh.tup (n := 0) (c := 301) (fun d hd => ?_) (by rw [List.length_map]; exact hl)
  obtain ⟨n, hn, rfl⟩ := List.mem_map.mp hd
  obtain ⟨h1, h2⟩ := h n hn
  refine Sh.int (Nat.lt_of_lt_of_le ?_ (show 2 ^ 250 ≤ 2 ^ 300 by decide))
  have : ((n.natAbs : Nat) : Int) < ((2 ^ 250 : Nat) : Int) := by
    rw [Int.natAbs_of_nonneg h1]
    exact h2
  exact Int.ofNat_lt.mp this
theorem ddIntsG {H : Hp} : ∀ L : List Int, DdAll H (L.map V.int) (L.map PyData.int)
  | [] => .nil
  | i :: L => .cons (.int i) (ddIntsG L)
end MG

/-! MG: f(b=.., a=..), every parameter by its name, the last one first; defs that know their code object where no repr is under way -/
namespace MG
open PySem PySem.Spec PyProof.Rows L2
/-- how names bind, the last parameter's first -/
def RB (K : PySem.W.Frag) (fd : FuncData) (ps : List Str) : Prop :=
  ∀ (s : Shared) (us : List Value), K.In s.heap → us.length = ps.length → BindsTo s fd ⟨[], ps.reverse.zip us⟩ (ps.zip us.reverse)
/-- the arguments' reading, then the promise of them in the def's order -/
def tCallR (sp : Sp) (E : XK) (tk : TA) : TE := fun σ H Q => tk σ H fun zs H2 => sp zs.reverse H2 Q E
section
variable {X : Cx} {k : Nat} {f : Addr} {fd : FuncData} {ps : List Str} {sp : Sp} {E : XK} {x : Str} {p pos : Pos} {kws : List Keyword} {tk : TA}
end
section
variable {P : Program} {w : World} {K : PySem.W.Frag} {mg : Str → Option Value} {base : Heap}
/-- a def by its body, which may know its own code object, where no repr is under way -/
theorem okGC {x qual : Str} {st : Stmt} {f : Addr} {fd : FuncData} {N ps : List Str} {k : Nat} {sp : Sp} {c : Addr}
    (F : Fun K x qual st f fd) (code : fd.code = .ref c) (S : FnScope N ps (defScope st)) (hlen : ∀ vs H Q E, sp vs H Q E → vs.length = ps.length)
    (body : ∀ (A : Around) (outer : List Env) (s : Shared) (H : Hp) (vs : List V) (Q : VK) (E : XK),
      A.guards = some [] → Room k (A.deeper (envOfC qual (defScope st) s.heap.objs.size f (.ref c))) → sp vs H Q E →
      ∃ t, PSs (cxOf CX0 P w K mg base N qual (defScope st) f (.ref c) A outer s H E).nox (defBody st) t ∧
        t { nx := fun _ H' => Q .non H', rt := Q } (start N vs) H) :
    FnG P w K mg base (k + 1) f fd ps sp := by
  obtain ⟨oc, od, kV, doc, pm, an, cdx, ct, osl, rfl, lk, hcd⟩ := F.ex
  obtain rfl : cdx = .ref c := code
  refine ⟨hlen, ?_⟩
  intro A outer s H args us vs Q E gd room e0 bnd rel want
  have inK : K.In s.heap := e0.mod.kin.keeps (fun b o q => (e0.bs b o q).left)
  have noLim : s.heap.NoLimit := e0.mod.nolimit.keeps (fun b o q => (e0.bs b o q).left)
  refine codeAny_call_function room.depth (inK _ _ lk) rfl S.co S.gen rfl
    (PySem.W.codeRec_of inK hcd) (bnd _ _ _ _ ?_)
  refine wpAny_newFunctionEnv_cells S.kind ?_ ?_
  · rintro ⟨n, v⟩ hy
    rcases S.par n (List.of_mem_zip hy).1 with loc | cel
    · exact Or.inl loc
    · exact Or.inr ⟨cel, PySem.W.cellsFrom_some _ _ _ (Or.inl cel)⟩
  · intro env he s1 x
    subst he
    refine ⟨noLim.keeps x.toInCall.keep, codeAny_func ?_⟩
    obtain ⟨t, ht0, hq⟩ := body A outer s H vs Q E gd (room.deeper _) want
    have ht := ht0.nox
    have I := inv_start (CX := CX0) (N := N) (qual := qual) (f := f) (cd := .ref c) (E := E) S room.hd e0 (hlen _ _ _ _ want) rel x
    refine wpAny_mono (ht.run [] s1 (start N vs) H _ I hq) ?_ (fun _ _ z => z)
    intro fl s' hs
    cases fl with
    | ret u =>
      obtain ⟨v, σ', H', J, rv, q⟩ := hs
      exact ⟨v, H', J.os, J.bare, J.base, J.hok, rv, q⟩
    | next =>
      obtain ⟨σ', H', J, q⟩ := hs
      exact ⟨V.non, H', J.os, J.bare, J.base, J.hok, rfl, q⟩
    | brk =>
      obtain ⟨_, _, _, q⟩ := hs
      exact q.elim
    | cont =>
      obtain ⟨_, _, _, q⟩ := hs
      exact q.elim
end
end MG
namespace MG
open PySem PySem.Spec PyProof.Rows L2 LamX
mutual
/-- data stay where only tables of code objects are written -/
theorem Dd.ext {H H' : Hp} (s : ExtN H H') : ∀ {v : V} {d : PyData}, Dd H v d → Dd H' v d
  | _, _, .non => .non
  | _, _, .bl b => .bl b
  | _, _, .int i => .int i
  | _, _, .str x => .str x
  | _, _, .lst e r => .lst (extLst s e) (DdAll.ext s r)
  | _, _, .tup e r => .tup (extTup s e) (DdAll.ext s r)
  | _, _, .dic e r => .dic (s _ _ e fun ps z => nomatch z) (DdAll.ext s r)
theorem DdAll.ext {H H' : Hp} (s : ExtN H H') : ∀ {vs : List V} {ds : List PyData}, DdAll H vs ds → DdAll H' vs ds
  | _, _, .nil => .nil
  | _, _, .cons a b => .cons (Dd.ext s a) (DdAll.ext s b)
end
/-- what repr asks -/
def ReprOk (d : PyData) : Prop := d.showable = true ∧ d.depth ≤ 60 ∧ d.shown.length ≤ sizeLine
/-- repr's rule at hand -/
abbrev rRepr : List V → Hp → VK → Prop := fun xs H Q => ∃ x d, xs = [x] ∧ Dd H x d ∧ d.showable = true ∧ d.depth ≤ 60 ∧ d.shown.length ≤ sizeLine ∧ Q (.str d.shown) H
end MG

/-! MXb: texts among data; rows and plans in the heap -/
namespace MG
open PySem PySem.Spec PyProof.Rows L2
def isStrD : PyData → Bool
  | .str _ => true
  | _ => false
theorem kit_str (K : PySem.W.Frag) (d : PyData) : PySem.W.kitOne K (.type (tyN d)) (.type "str") = some (isStrD d) := by
  have h : ∀ (a : String) (r : Bool), (a = "NoneType" ∧ r = false) ∨ (a = "bool" ∧ r = false) ∨ (a = "int" ∧ r = false) ∨ (a = "str" ∧ r = true) ∨ (a = "list" ∧ r = false) ∨ (a = "tuple" ∧ r = false) ∨ (a = "dict" ∧ r = false) → PySem.W.kitOne K (.type a) (.type "str") = some r := fun a r h => by
    rcases h with ⟨rfl, rfl⟩ | ⟨rfl, rfl⟩ | ⟨rfl, rfl⟩ | ⟨rfl, rfl⟩ | ⟨rfl, rfl⟩ | ⟨rfl, rfl⟩ | ⟨rfl, rfl⟩
    all_goals exact kit_ty (by decide +kernel)
  cases d with
  | none => exact h _ _ (.inl ⟨rfl, rfl⟩)
  | bool _ => exact h _ _ (.inr (.inl ⟨rfl, rfl⟩))
  | int _ => exact h _ _ (.inr (.inr (.inl ⟨rfl, rfl⟩)))
  | str _ => exact h _ _ (.inr (.inr (.inr (.inl ⟨rfl, rfl⟩))))
  | list _ => exact h _ _ (.inr (.inr (.inr (.inr (.inl ⟨rfl, rfl⟩)))))
  | tuple _ => exact h _ _ (.inr (.inr (.inr (.inr (.inr (.inl ⟨rfl, rfl⟩))))))
  | dict _ => exact h _ _ (.inr (.inr (.inr (.inr (.inr (.inr ⟨rfl, rfl⟩))))))
/-- whole numbers in a tuple or list -/
abbrev intsV (ns : List Nat) : List V := ns.map fun (n : Nat) => V.int (n : Int)
def runV (r : Nat × Nat × Nat) : List V := [.int (r.1 : Nat), .int (r.2.1 : Nat), .int (r.2.2 : Nat)]
/-- runs at these places -/
def RunsAt (H : Hp) (ts : List Addr) (rs : List (Nat × Nat × Nat)) : Prop := ts.length = rs.length ∧ ∀ (i : Nat) (t : Addr) (r : Nat × Nat × Nat), ts[i]? = some t → rs[i]? = some r → H t = some (.tup (runV r))
theorem RunsAt.mono {H H' : Hp} {ts : List Addr} {rs : List (Nat × Nat × Nat)} (h : RunsAt H ts rs) (s : ∀ a xs, H a = some (.tup xs) → H' a = some (.tup xs)) : RunsAt H' ts rs := ⟨h.1, fun i t r a b => s _ _ (h.2 i t r a b)⟩
theorem RunsAt.nil {H : Hp} : RunsAt H [] [] := ⟨rfl, fun i t r h => nomatch h⟩
theorem RunsAt.snoc {H : Hp} {ts : List Addr} {rs : List (Nat × Nat × Nat)} {t : Addr} {r : Nat × Nat × Nat} (h : RunsAt H ts rs) (e : H t = some (.tup (runV r))) : RunsAt H (ts ++ [t]) (rs ++ [r]) := by
  refine ⟨by rw [List.length_append, List.length_append, h.1]; rfl, fun i t' r' a b => ?_⟩
  by_cases hi : i < ts.length
  · rw [List.getElem?_append_left hi] at a
    rw [List.getElem?_append_left (by rw [← h.1]; exact hi)] at b
    exact h.2 i t' r' a b
  · rw [List.getElem?_append_right (by omega)] at a
    rw [List.getElem?_append_right (by rw [← h.1]; omega), ← h.1] at b
    match hj : i - ts.length, a, b with
    | 0, a, b => cases a; cases b; exact e
theorem eqvL_strs (a b : List Str) : PyData.eqv (.list (a.map PyData.str)) (.list (b.map PyData.str)) = decide (a = b) := by
  rw [PyData.eqv, eqvAll_strs]
theorem shapedL_strs (L : List Str) (h : ∀ x ∈ L, PyData.canLay0 (.str x) = true) : SeqAt.shaped (.list (L.map PyData.str)) = true := by
  unfold SeqAt.shaped
  rw [PyData.canLay0, lay_strsG L h, PyData.depth, depth_strsG]
  rfl
theorem canStr {z : Str} (h : ∀ c ∈ TL.tl z, c < 1114112) : PyData.canLay0 (.str z) = true := by
  show (z.cps.all fun c => decide (c < 0x110000)) = true
  rw [← Array.all_toList, List.all_eq_true]
  exact fun c hc => decide_eq_true (h c hc)
theorem canDash : PyData.canLay0 (.str "-") = true := canStr (by rw [show TL.tl ("-" : Str) = [45] by decide +kernel]; simp)
def figS : Str := "0123456789"
theorem mem_figs (c : Nat) : c ∈ figS.cps.toList ↔ 48 ≤ c ∧ c ≤ 57 := by
  rw [show figS.cps.toList = [48, 49, 50, 51, 52, 53, 54, 55, 56, 57] from by decide +kernel]
  simp only [List.mem_cons, List.not_mem_nil, or_false]
  omega
theorem eq_zero {z : Str} : z = "0" ↔ TL.tl z = [48] := ⟨fun h => by rw [h]; decide +kernel, fun h => TL.ext_tl (h.trans (by decide +kernel))⟩
theorem eq_blank : TL.tl (" " : Str) = [32] := by decide +kernel
theorem eq_star : TL.tl ("*" : Str) = [42] := by decide +kernel
theorem eq_arrow : TL.tl (">" : Str) = [62] := by decide +kernel
theorem eq_dash : TL.tl ("-" : Str) = [45] := by decide +kernel
theorem int_of {z : Str} (h : TX.isNum (TL.tl z) = true) : PySem.intText? z = some ((NumText.digitsVal (TL.tl z) : Nat) : Int) ∧ z.length ≤ 30 := by
  obtain ⟨h1, h2, _⟩ := TX.isNum_iff.mp h
  have hl := TL.len_tl z
  refine ⟨intText_digits (x := z) h2 (fun e => ?_) (by omega), by omega⟩
  have : TL.tl z = [] := e
  rw [this] at h1
  exact absurd h1.1 (by decide)
end MG

namespace K61
open PySem PySem.Spec PyProof.Rows L2 MG
abbrev sIn : Stmt := topS 19
abbrev sRn : Stmt := topS 20
abbrev sWd : Stmt := topS 21
abbrev sRr : Stmt := topS 22
abbrev sRu : Stmt := topS 23
abbrev sRp : Stmt := topS 24
theorem scIn : FnScope ["text"] ["text"] (defScope sIn) := ⟨rfl, rfl, rfl, by decide +kernel, rfl, by decide +kernel, by decide +kernel⟩
theorem scRn : FnScope ["text"] ["text"] (defScope sRn) := ⟨rfl, rfl, rfl, by decide +kernel, rfl, by decide +kernel, by decide +kernel⟩
theorem scWd : FnScope ["text"] ["text"] (defScope sWd) := ⟨rfl, rfl, rfl, by decide +kernel, rfl, by decide +kernel, by decide +kernel⟩
abbrev nRr : List Str := ["text", "word", "row"]
theorem scRr : FnScope ["text", "word", "row"] ["text"] (defScope sRr) := ⟨rfl, rfl, rfl, by decide +kernel, rfl, by decide +kernel, by decide +kernel⟩
theorem scRu : FnScope ["word", "ahead", "star", "many", "giver", "arrow", "taker", "i", "j", "k"] ["word"] (defScope sRu) := ⟨rfl, rfl, rfl, by decide +kernel, rfl, by decide +kernel, by decide +kernel⟩
abbrev nRp : List Str := ["text", "words", "word"]
theorem scRp : FnScope ["text", "words", "word"] ["text"] (defScope sRp) := ⟨rfl, rfl, rfl, by decide +kernel, rfl, by decide +kernel, by decide +kernel⟩
section
variable {P : Program} {w : World} {K : PySem.W.Frag} {mg : Str → Option Value} {base : Heap}
theorem sg_fig {z : Str} : sgB z figS = (TL.tl z).all fun c => decide (48 ≤ c ∧ c ≤ 57) := by
  unfold sgB
  rw [List.all_map]
  have e : (id ∘ fun c => decide (c ∈ figS.cps.toList)) = fun c => decide (48 ≤ c ∧ c ≤ 57) := funext fun c => decide_eq_decide.mpr (mem_figs c)
  rw [e]
def spIn : Sp := fun vs H Q _ => ∃ z : Str, vs = [.str z] ∧ z.length ≤ 1000000 ∧ ∀ H', Same H H' → Q (.bl (TX.isNum (TL.tl z))) H'
theorem ok_in {f fOs : Addr} {fd fdOs : FuncData} {k : Nat} {tM tF : Tok} (F : Fun K "is_number" "is_number" sIn f fd) (FOs : Fun K "is_of_signs" "is_of_signs" sOs fOs fdOs) (bOs : Binds K fdOs ["text", "signs"] []) (gOs : mg "is_of_signs" = some (.ref fOs))
    (gMF : mg "MOST_FIGURES" = some (.int 30 tM)) (gFg : mg "FIGURES" = some (.str figS tF)) (m_all : mg "all" = none) (m_len : mg "len" = none) : FnOk P w K mg base CX0 (k + 2) f fd ["text"] spIn := by
  have GOs : FnOk P w K mg base CX0 (k + 1) fOs fdOs ["text", "signs"] spOs := ok_os FOs m_all
  refine F.ok scIn (fun vs H Q E h => ?_) (fun cdv A outer s H vs Q E hr h => ?_)
  · obtain ⟨z, rfl, _⟩ := h
    rfl
  · obtain ⟨z, rfl, lz, q⟩ := h
    refine ⟨_, pss_cons (ps_if (PW.pt (pw_or (pt_not (pt_chain op_le op_le pe_int (pe_callB call_len_str (by rfl) m_len PySem.boot_len (pa_cons (pv 0) pa_nil)) (pe_glob (v := .int 30) (by rfl) gMF ⟨_, rfl⟩))) (pw_or1 (pt_not (pt_val (pe_call GOs hr (by rfl) gOs FOs.kp bOs .nil pass0 (pa_cons (pv 0) (pa_cons (pe_glob (v := .str figS) (by rfl) gFg ⟨_, rfl⟩) pa_nil)))))))) (pss_one (ps_ret pe_bl)) pss_nil)
      (pss_one (ps_ret (pe_or (pe_cmpR op_eq (pv 0) pe_str (nomark _)) (pe_one (pe_cmpR op_ne (pe_ix ix_str (pv 0) pe_int (fun _ _ => rfl)) pe_str (nomark _)))))), ?_⟩
    have hl := TL.len_tl z
    have no : ∀ H', Same H H' → TX.isNum (TL.tl z) = false → Q (.bl false) H' := fun H' s e => by have := q H' s; rw [e] at this; exact this
    have ne : ∀ c : Prop, ¬ c → ∀ b : Bool, (b = true ↔ c) → b = false := fun c h b k => by cases b with | false => rfl | true => exact absurd (k.mp rfl) h
    have notN : ¬ ((1 ≤ (TL.tl z).length ∧ (TL.tl z).length ≤ 30) ∧ NumText.AllDigits (TL.tl z) ∧ (TL.tl z = [48] ∨ ¬ (TL.tl z).head? = some 48)) → TX.isNum (TL.tl z) = false := fun h => ne _ h _ TX.isNum_iff
    refine ⟨.str z, rfl, z, rfl, by rw [sizeLine_eq]; omega, 1, (z.length : Int), rfl, rfl, _, rfl, ?_⟩
    refine ite2 (fun h1 => ?_) (fun h1 => ⟨false, rfl, iteT (no H (.refl H) (notN fun y => h1 (decide_eq_true (by have := y.1.1; omega))))⟩)
    have h1 := of_decide_eq_true h1
    refine ⟨_, _, rfl, rfl, ?_⟩
    dsimp only
    by_cases h2 : (z.length : Int) ≤ 30
    case neg =>
      rw [decide_eq_false h2]
      exact ⟨false, rfl, iteT (no H (.refl H) (notN fun y => h2 (by have := y.1.2; omega)))⟩
    rw [decide_eq_true h2]
    refine ⟨true, rfl, iteF ?_⟩
    refine ⟨_, rfl, z, figS, rfl, by omega, fun H1 s1 => ⟨_, rfl, ?_⟩⟩
    rw [sg_fig]
    cases hd : (TL.tl z).all fun c => decide (48 ≤ c ∧ c ≤ 57) with
    | false => exact iteT (no H1 s1 (notN fun y => by
        have : (TL.tl z).all (fun c => decide (48 ≤ c ∧ c ≤ 57)) = true := List.all_eq_true.mpr fun c hc => decide_eq_true (y.2.1 c hc)
        rw [hd] at this
        cases this))
    | true =>
      have dg : NumText.AllDigits (TL.tl z) := fun c hc => of_decide_eq_true (List.all_eq_true.mp hd c hc)
      refine iteF ⟨_, rfl, rfl, _, rfl, ite2 (fun h3 => ?_) (fun h3 => ?_)⟩
      · have h3 : z = "0" := V.str.inj (of_decide_eq_true h3)
        have := q H1 s1
        rw [TX.isNum_iff.mpr ⟨⟨by omega, by omega⟩, dg, .inl (eq_zero.mp h3)⟩] at this
        exact this
      · have h3 : ¬ TL.tl z = [48] := fun e => h3 (decide_eq_true (by rw [eq_zero.mpr e]))
        obtain ⟨c, r, ec⟩ : ∃ c r, TL.tl z = c :: r := by
          cases e : TL.tl z with
          | nil => rw [e] at hl; simp at hl; omega
          | cons c r => exact ⟨c, r, rfl⟩
        refine ⟨_, rfl, z, 0, c, rfl, rfl, by rw [sizeLine_eq]; omega, atI_nat (j := 0) (by show (TL.tl z)[0]? = _; rw [ec]; rfl), rfl, ?_⟩
        have e : (!decide (V.str ⟨#[c]⟩ = V.str "0")) = TX.isNum (TL.tl z) := by
          by_cases hc : c = 48
          · rw [decide_eq_true (show V.str ⟨#[c]⟩ = V.str "0" by rw [hc]; exact congrArg V.str (eq_zero.mpr rfl))]
            refine (notN fun y => ?_).symm
            rcases y.2.2 with y | y
            · exact h3 y
            · exact y (by rw [ec, hc]; rfl)
          · rw [decide_eq_false (fun y => hc (by
              have := eq_zero.mp (V.str.inj y)
              have : [c] = [48] := this
              exact (List.cons.inj this).1))]
            exact (TX.isNum_iff.mpr ⟨⟨by omega, by omega⟩, dg, .inr (by rw [ec]; intro y; exact hc (Option.some.inj y))⟩).symm
        rw [e]
        exact q H1 s1
def spRn (NT : Addr) : Sp := fun vs H Q E => ∃ z : Str, vs = [.str z] ∧ z.length ≤ 1000000 ∧ (∀ n, TX.numW (TL.tl z) = some n → ∀ H', Same H H' → Q (.int (n : Nat)) H') ∧ (TX.numW (TL.tl z) = none → ∀ H', Same H H' → E (.ref NT) none H')
theorem ok_rn {NT f fIn : Addr} {fd fdIn : FuncData} {k : Nat} (F : Fun K "read_number" "read_number" sRn f fd) (XT : ExcF K mg "NoText" NT) (FIn : Fun K "is_number" "is_number" sIn fIn fdIn) (bIn : Binds K fdIn ["text"] []) (gIn : mg "is_number" = some (.ref fIn)) (GIn : FnOk P w K mg base CX0 (k + 2) fIn fdIn ["text"] spIn)
    (m_int : mg "int" = none) : FnOk P w K mg base (L2.CX P w) (k + 3) f fd ["text"] (spRn NT) := by
  refine F.okX scRn (fun vs H Q E h => ?_) (fun cdv A outer s H vs Q E hr h => ?_)
  · obtain ⟨z, rfl, _⟩ := h
    rfl
  · obtain ⟨z, rfl, lz, q, qE⟩ := h
    refine ⟨_, pss_cons (ps_if (pt_not (pt_val (pe_call GIn hr (by rfl) gIn FIn.kp bIn .nil pass0 (pa_cons (pv 0) pa_nil)))) (pss_one (ps_raiseX rfl (takes_of rfl rfl rfl rfl) XT rfl)) pss_nil)
      (pss_one (ps_ret (pe_callTy call_int_str (by rfl) m_int (by decide +kernel) (pa_cons (pv 0) pa_nil)))), ?_⟩
    refine ⟨_, rfl, z, rfl, lz, fun H1 s1 => ⟨_, rfl, ?_⟩⟩
    unfold TX.numW at q qE
    cases h : TX.isNum (TL.tl z) with
    | false =>
      rw [h] at qE
      exact iteT (qE rfl H1 s1)
    | true =>
      rw [h] at q
      obtain ⟨e, l⟩ := int_of h
      exact iteF ⟨_, rfl, z, _, rfl, e, by omega, q _ rfl H1 s1⟩
/-- the words of a text -/
def spWd (NT : Addr) : Sp := fun vs H Q E => ∃ (x : V) (d : PyData), vs = [x] ∧ Dd H x d ∧ (∀ z, d = .str z → z.length ≤ 1000000 ∧ ∀ p H' (ys : List Str), Same H H' → H p = none → H' p = some (.lst (ys.map V.str)) → ys.map TL.tl = TX.sp 32 [] (TL.tl z) → Q (.ref p) H') ∧ (isStrD d = false → ∀ H', Same H H' → E (.ref NT) none H')
theorem ok_wd {NT f : Addr} {fd : FuncData} {k : Nat} (F : Fun K "words_of" "words_of" sWd f fd) (XT : ExcF K mg "NoText" NT) (m_isinstance : mg "isinstance" = none) (m_str : mg "str" = none) : FnOk P w K mg base (L2.CX P w) (k + 1) f fd ["text"] (spWd NT) := by
  refine F.okX scWd (fun vs H Q E h => ?_) (fun cdv A outer s H vs Q E hr h => ?_)
  · obtain ⟨x, d, rfl, _⟩ := h
    rfl
  · obtain ⟨x, d, rfl, hd, q, qE⟩ := h
    refine ⟨_, pss_cons (ps_if (pt_not (pt_val (pe_callB call_isi (by rfl) m_isinstance (by decide +kernel) (pa_cons (pv 0) (pa_cons (pe_bltn (v := .ty "str") (by rfl) m_str (by decide +kernel) rfl) pa_nil))))) (pss_one (ps_raiseX rfl (takes_of rfl rfl rfl rfl) XT rfl)) pss_nil)
      (pss_one (ps_ret (pe_split (pv 0) pe_str))), ?_⟩
    refine ⟨x, rfl, x, _, _, _, _, rfl, .ty "str", hd.ty, kit_str _ d, _, rfl, ?_⟩
    cases h : isStrD d with
    | false => exact iteT (qE h H (.refl H))
    | true =>
      cases hd with
      | str z =>
        obtain ⟨lz, q⟩ := q z rfl
        refine iteF ⟨_, rfl, ⟨_, rfl⟩, z, " ", rfl, rfl, by decide +kernel, by rw [sizeLine_eq]; omega, fun p np => ?_⟩
        exact q p _ _ (same_upd np) np upd_same (TX.split_tl z eq_blank (by decide))
      | _ => cases h
/-- a row as it is written -/
def spRr (NT : Addr) : Sp := fun vs H Q E => ∃ (x : V) (d : PyData), vs = [x] ∧ Dd H x d ∧ (∀ z, d = .str z → z.length ≤ 1000000 ∧ (∀ ns, TX.rowT (TL.tl z) = some ns → ∀ p H', Same H H' → H p = none → H' p = some (.tup (intsV ns)) → Q (.ref p) H') ∧ (TX.rowT (TL.tl z) = none → ∀ H', Same H H' → E (.ref NT) none H')) ∧ (isStrD d = false → ∀ H', Same H H' → E (.ref NT) none H')
theorem intsV_eq (ns : List Nat) : intsV ns = (ns.map fun (n : Nat) => (n : Int)).map V.int := by rw [List.map_map]; rfl
theorem sumD_nat : ∀ ns : List Nat, sumD (ns.map fun (n : Nat) => PyData.int (n : Int)) = (ns.sum : Nat)
  | [] => rfl
  | n :: ns => by
    show (n : Int) + sumD _ = _
    rw [sumD_nat ns, List.sum_cons, Int.natCast_add]
theorem rowD_nat (ns : List Nat) : rowD (.tuple (ns.map fun (n : Nat) => PyData.int (n : Int))) = decide (1 ≤ ns.length ∧ ns.length ≤ 12 ∧ 0 < ns.sum ∧ ns.sum < 10 ^ 30) := by
  show rowL _ = _
  unfold rowL
  rw [sumD_nat, List.length_map]
  have e : (ns.map fun (n : Nat) => PyData.int (n : Int)).all nnD = true := List.all_eq_true.mpr fun d hd => by
    obtain ⟨n, _, rfl⟩ := List.mem_map.mp hd
    exact decide_eq_true (Int.natCast_nonneg n)
  rw [e, Bool.true_and, ← Bool.decide_and, ← Bool.decide_and, ← Bool.decide_and]
  exact decide_eq_decide.mpr ⟨fun h => ⟨h.1.1, h.1.2, by omega, by omega⟩, fun h => ⟨⟨h.1, h.2.1⟩, by omega, by omega⟩⟩
theorem ddNat {H : Hp} : ∀ ns : List Nat, DdAll H (intsV ns) (ns.map fun (n : Nat) => PyData.int (n : Int))
  | [] => .nil
  | n :: ns => .cons (.int _) (ddNat ns)
theorem ok_rr {NT f fWd fRn fRow : Addr} {fd fdWd fdRn fdRow : FuncData} {k : Nat} (F : Fun K "read_row" "read_row" sRr f fd) (XT : ExcF K mg "NoText" NT)
    (FWd : Fun K "words_of" "words_of" sWd fWd fdWd) (bWd : Binds K fdWd ["text"] []) (gWd : mg "words_of" = some (.ref fWd)) (GWd : FnOk P w K mg base (L2.CX P w) (k + 1) fWd fdWd ["text"] (spWd NT))
    (FRn : Fun K "read_number" "read_number" sRn fRn fdRn) (bRn : Binds K fdRn ["text"] []) (gRn : mg "read_number" = some (.ref fRn)) (GRn : FnOk P w K mg base (L2.CX P w) (k + 3) fRn fdRn ["text"] (spRn NT))
    (FRow : Fun K "is_row" "is_row" sRow fRow fdRow) (bRow : Binds K fdRow ["thing"] []) (gRow : mg "is_row" = some (.ref fRow)) (GRow : FnOk P w K mg base CX0 (k + 2) fRow fdRow ["thing"] spRow)
    (m_tuple : mg "tuple" = none) : FnOk P w K mg base (L2.CX P w) (k + 4) f fd ["text"] (spRr NT) := by
  refine F.okX scRr (fun vs H Q E h => ?_) (fun cdv A outer s H vs Q E hr h => ?_)
  · obtain ⟨x, d, rfl, _⟩ := h
    rfl
  · obtain ⟨x, d, rfl, hd, q, qE⟩ := h
    have hr1 := hr.mono (show k + 1 ≤ k + 3 by omega)
    have hr2 := hr.mono (show k + 2 ≤ k + 3 by omega)
    refine ⟨_, pss_cons (ps_set (i := 2) scRr.nd rfl (.inl rfl) (pe_callTy call_tuple_of (by rfl) m_tuple (by decide +kernel) (pa_cons (pe_lcX (own := [("word", 1)]) (g := gName 1) (tt := tYes) rfl scRr.nd rfl rfl (takes_of rfl rfl rfl rfl) (pi_list (pe_call GWd hr1 (by rfl) gWd FWd.kp bWd .nil (passes_call (takes_of rfl rfl rfl rfl) (fun _ _ _ _ h => h)) (pa_cons (pv 0) pa_nil))) (blkOk_by (N := nRr) (sc := defScope sRr) (by decide +kernel)) (fun _ _ _ _ _ => pg_name (i := 1) scRr.nd rfl (Or.inl rfl)) (fun _ _ _ _ _ => pts_nil) (fun _ _ _ _ _ _ _ out => pe_call GRn hr (by rfl) gRn FRn.kp bRn .nil out (pa_cons (pv 1) pa_nil))) pa_nil)))
      (pss_cons (ps_if (pt_not (pt_val (pe_call GRow hr2 (by rfl) gRow FRow.kp bRow .nil pass0 (pa_cons (pv 2) pa_nil)))) (pss_one (ps_raiseX rfl (takes_of rfl rfl rfl rfl) XT rfl)) pss_nil)
      (pss_one (ps_ret (pv 2)))), ?_⟩
    refine ⟨x, rfl, x, d, rfl, hd, fun z hz => ?_, qE⟩
    obtain ⟨lz, q, qN⟩ := q z hz
    refine ⟨lz, fun p H1 ys s1 np ep hy => ⟨p, rfl, ⟨_, SqL.of ep⟩, fun D nD => ?_⟩⟩
    have hlen : ys.length ≤ 1000001 := by
      have := congrArg List.length hy
      rw [List.length_map] at this
      have h2 := TX.sp_most 32 (TL.tl z) []
      have := TL.len_tl z
      omega
    have eW : (TX.sp 32 [] (TL.tl z)).map TX.numW = ys.map fun y => TX.numW (TL.tl y) := by rw [← hy, List.map_map]; rfl
    refine lc_list (K := K) (a := p) (xs := ys.map V.str) (fun m G => Same H1 G ∧ ∃ ns : List Nat, G D = some (.lst (intsV ns)) ∧ (ys.take m).map (fun y => TX.numW (TL.tl y)) = ns.map some) ⟨same_upd nD, [], upd_same, rfl⟩ ?_ ?_ ?_
    · rintro m G _ ⟨sm, _⟩
      exact SqL.of (sm _ _ ep)
    · rintro m v G hv ⟨sm, ns, hD, hns⟩
      rw [List.getElem?_map] at hv
      obtain ⟨y, hy', rfl⟩ := Option.map_eq_some_iff.mp hv
      have hm : m < ys.length := (List.getElem?_eq_some_iff.mp hy').1
      have ly : y.length ≤ 1000000 := by
        have := TX.sp_short 32 (TL.tl z) [] (TL.tl y) (by rw [← hy]; exact List.mem_map.mpr ⟨y, List.mem_of_getElem? hy', rfl⟩)
        rw [List.length_nil] at this
        have e1 := TL.len_tl z
        have e2 := TL.len_tl y
        omega
      have nl : ns.length = m := by
        have := congrArg List.length hns
        rw [List.length_map, List.length_map, List.length_take] at this
        omega
      refine ⟨rfl, _, rfl, y, rfl, ly, fun n hn G2 s2 => ?_, fun hn G2 s2 => ?_⟩
      · refine ⟨_, s2 _ _ hD, by rw [List.length_map, nl, sizeLine_eq]; omega, fun b o hb => ?_, ns ++ [n], by rw [upd_same]; unfold intsV; rw [List.map_append]; rfl, ?_⟩
        · rw [upd_ne (ne_of_none hb nD)]
          exact s2 _ _ (sm b o hb)
        · rw [List.take_add_one, hy', List.map_append, hns, List.map_append]
          show _ ++ [TX.numW (TL.tl y)] = _
          rw [hn]; rfl
      · have bad : TX.rowT (TL.tl z) = none := by
          unfold TX.rowT
          rw [eW, TX.allN_none (List.mem_map.mpr ⟨y, List.mem_of_getElem? hy', hn⟩)]
        exact qN bad G2 (fun b o hb => s2 _ _ (sm _ _ (s1 b o hb)))
    · rintro G ⟨sm, ns, hD, hns⟩
      rw [List.length_map, List.take_length] at hns
      have nl : ns.length = ys.length := by
        have := congrArg List.length hns
        rw [List.length_map, List.length_map] at this
        exact this.symm
      have eA : TX.allN ((TX.sp 32 [] (TL.tl z)).map TX.numW) = some ns := TX.allN_some.mpr (by rw [eW, hns])
      refine ⟨D, _, rfl, .inl ⟨SqL.of hD, fun t nt => ?_⟩⟩
      have s2 : Same G (upd G t (.tup (intsV ns))) := same_upd nt
      have e2 : upd G t (.tup (intsV ns)) t = some (.tup (intsV ns)) := upd_same
      generalize upd G t (HO.tup (intsV ns)) = G2 at s2 e2 ⊢
      have s02 : Same H G2 := fun b o hb => s2 _ _ (sm _ _ (s1 b o hb))
      have n1 : 1 ≤ ns.length := by
        have := TX.sp_ne 32 (TL.tl z) []
        rw [← hy, List.length_map] at this
        omega
      refine ⟨_, rfl, .ref t, _, rfl, .tup e2 (ddNat ns), fun H3 s3 => ⟨_, rfl, ?_⟩⟩
      have nt0 : H t = none := by
        cases h : H t with
        | none => rfl
        | some o => have := sm _ _ (s1 t o h); rw [nt] at this; cases this
      unfold TX.rowT at q qN
      rw [eA] at q qN
      dsimp only at q qN
      rw [rowD_nat]
      by_cases hb : 1 ≤ ns.length ∧ ns.length ≤ 12 ∧ 0 < ns.sum ∧ ns.sum < 10 ^ 30
      · rw [decide_eq_true hb]
        rw [if_pos hb.2] at q
        exact iteF ⟨_, rfl, q ns rfl t H3 (s02.trans s3) nt0 (s3 _ _ e2)⟩
      · rw [decide_eq_false hb]
        rw [if_neg (fun y => hb ⟨n1, y⟩)] at qN
        exact iteT (qN rfl H3 (s02.trans s3))
/-- a run as it is written -/
def spRu (NT : Addr) : Sp := fun vs H Q E => ∃ z : Str, vs = [.str z] ∧ z.length ≤ 1000000 ∧ (∀ r, TX.runT (TL.tl z) = some r → ∀ p H', Same H H' → H p = none → H' p = some (.tup (runV r)) → Q (.ref p) H') ∧ (TX.runT (TL.tl z) = none → ∀ H', Same H H' → E (.ref NT) none H')
theorem ok_ru {NT f fRn : Addr} {fd fdRn : FuncData} {k : Nat} {tP : Tok} (F : Fun K "read_run" "read_run" sRu f fd) (XT : ExcF K mg "NoText" NT)
    (FRn : Fun K "read_number" "read_number" sRn fRn fdRn) (bRn : Binds K fdRn ["text"] []) (gRn : mg "read_number" = some (.ref fRn)) (GRn : FnOk P w K mg base (L2.CX P w) (k + 3) fRn fdRn ["text"] (spRn NT))
    (gMP : mg "MOST_PLACES" = some (.int 12 tP)) : FnOk P w K mg base (L2.CX P w) (k + 4) f fd ["word"] (spRu NT) := by
  refine F.okX scRu (fun vs H Q E h => ?_) (fun cdv A outer s H vs Q E hr h => ?_)
  · obtain ⟨z, rfl, _⟩ := h
    rfl
  · obtain ⟨z, rfl, lz, q, qN⟩ := h
    refine ⟨_, pss_cons (ps_asg (pe_partition (pv 0) pe_str) (pg_tup rfl (pgs_cons (pg_name (i := 1) scRu.nd rfl (.inl rfl)) (pgs_cons (pg_name (i := 2) scRu.nd rfl (.inl rfl)) (pgs_cons (pg_name (i := 3) scRu.nd rfl (.inl rfl)) pgs_nil)))))
      (pss_cons (ps_asg (pe_partition (pv 1) pe_str) (pg_tup rfl (pgs_cons (pg_name (i := 4) scRu.nd rfl (.inl rfl)) (pgs_cons (pg_name (i := 5) scRu.nd rfl (.inl rfl)) (pgs_cons (pg_name (i := 6) scRu.nd rfl (.inl rfl)) pgs_nil)))))
      (pss_cons (ps_par3 (i := 7) (j := 8) (l := 9) rfl scRu.nd rfl rfl rfl (by decide) (by decide) (by decide) rfl rfl rfl (pa_cons (pe_call GRn hr (by rfl) gRn FRn.kp bRn .nil (passes_call (takes_of rfl rfl rfl rfl) (fun _ _ _ _ h => h)) (pa_cons (pv 4) pa_nil)) (pa_cons (pe_call GRn hr (by rfl) gRn FRn.kp bRn .nil (passes_call (takes_of rfl rfl rfl rfl) (fun _ _ _ _ h => h)) (pa_cons (pv 6) pa_nil)) (pa_cons (pe_call GRn hr (by rfl) gRn FRn.kp bRn .nil (passes_call (takes_of rfl rfl rfl rfl) (fun _ _ _ _ h => h)) (pa_cons (pv 3) pa_nil)) pa_nil))) (by rfl))
      (pss_cons (ps_if (PW.pt (pw_or (pt_cmpR op_eq (pv 7) (pv 8) (nomark _)) (pw_or (pt_cmpR op_ge (pv 7) (pe_glob (v := .int 12) (by rfl) gMP ⟨_, rfl⟩) (nomark _)) (pw_or1 (pt_cmpR op_ge (pv 8) (pe_glob (v := .int 12) (by rfl) gMP ⟨_, rfl⟩) (nomark _)))))) (pss_one (ps_raiseX rfl (takes_of rfl rfl rfl rfl) XT rfl)) pss_nil)
      (pss_one (ps_ret (pe_tup (pa_cons (pv 7) (pa_cons (pv 8) (pa_cons (pv 9) pa_nil))))))))), ?_⟩
    have l0 := TL.len_tl z
    -- what the two cuts leave
    obtain ⟨ah, st, mn, ep1, h1⟩ : ∃ ah st mn : Str, Txt.partition z "*" = (ah, st, mn) ∧ ((TX.pa 42 [] (TL.tl z) = none ∧ TL.tl mn = [] ∧ ah = z) ∨ (TX.pa 42 [] (TL.tl z) = some (TL.tl ah, TL.tl mn))) := by
      rcases TX.part_tl z eq_star with ⟨h, e⟩ | ⟨a, b, h, e⟩
      · exact ⟨_, _, _, e, .inl ⟨h, rfl, rfl⟩⟩
      · exact ⟨_, _, _, e, .inr h⟩
    have lah : (TL.tl ah).length ≤ (TL.tl z).length ∧ (TL.tl mn).length ≤ (TL.tl z).length := by
      rcases h1 with ⟨_, e, e2⟩ | h
      · rw [e, e2]; exact ⟨Nat.le_refl _, Nat.zero_le _⟩
      · rcases TX.pa_cases 42 (TL.tl z) [] with ⟨k, _⟩ | ⟨a', b, k, _, _, e⟩
        · rw [k] at h; cases h
        · rw [k] at h
          obtain ⟨e1, e2⟩ := Prod.mk.inj (Option.some.inj h)
          rw [← e1, ← e2, e, List.nil_append, List.length_append, List.length_cons]
          omega
    obtain ⟨gv, aw, tk, ep2, h2⟩ : ∃ gv aw tk : Str, Txt.partition ah ">" = (gv, aw, tk) ∧ ((TX.pa 62 [] (TL.tl ah) = none ∧ TL.tl tk = [] ∧ gv = ah) ∨ (TX.pa 62 [] (TL.tl ah) = some (TL.tl gv, TL.tl tk))) := by
      rcases TX.part_tl ah eq_arrow with ⟨h, e⟩ | ⟨a, b, h, e⟩
      · exact ⟨_, _, _, e, .inl ⟨h, rfl, rfl⟩⟩
      · exact ⟨_, _, _, e, .inr h⟩
    have lgv : (TL.tl gv).length ≤ (TL.tl ah).length ∧ (TL.tl tk).length ≤ (TL.tl ah).length := by
      rcases h2 with ⟨_, e, e2⟩ | h
      · rw [e, e2]; exact ⟨Nat.le_refl _, Nat.zero_le _⟩
      · rcases TX.pa_cases 62 (TL.tl ah) [] with ⟨k, _⟩ | ⟨a', b, k, _, _, e⟩
        · rw [k] at h; cases h
        · rw [k] at h
          obtain ⟨e1, e2⟩ := Prod.mk.inj (Option.some.inj h)
          rw [← e1, ← e2, e, List.nil_append, List.length_append, List.length_cons]
          omega
    have key : TX.runT (TL.tl z) = TX.threeW (TL.tl gv) (TL.tl tk) (TL.tl mn) := by
      unfold TX.runT
      rcases h1 with ⟨h, e, _⟩ | h
      · rw [h, e, TX.three_none3 TX.numW_nil]
      · rw [h]
        dsimp only
        rcases h2 with ⟨h', e, _⟩ | h'
        · rw [h', e, TX.three_none2 TX.numW_nil]
        · rw [h']
    rw [key] at q qN
    have e0 := TL.len_tl ah; have e3 := TL.len_tl gv; have e4 := TL.len_tl tk; have e5 := TL.len_tl mn
    refine ⟨_, rfl, ⟨_, rfl⟩, z, "*", rfl, rfl, by decide +kernel, by rw [sizeLine_eq]; omega, fun p np => ?_⟩
    rw [ep1]
    have s1 : Same H (upd H p (.tup [.str ah, .str st, .str mn])) := same_upd np
    have g1 : upd H p (.tup [.str ah, .str st, .str mn]) p = some (.tup [.str ah, .str st, .str mn]) := upd_same
    dsimp only
    generalize upd H p (HO.tup [.str ah, .str st, .str mn]) = H1 at s1 g1 ⊢
    refine ⟨p, _, rfl, SqT.of g1, rfl, _, _, rfl, _, _, rfl, _, _, rfl, rfl, ?_⟩
    refine ⟨_, rfl, ⟨_, rfl⟩, ah, ">", rfl, rfl, by decide +kernel, by rw [sizeLine_eq]; omega, fun p2 np2 => ?_⟩
    rw [ep2]
    have s2 : Same H1 (upd H1 p2 (.tup [.str gv, .str aw, .str tk])) := same_upd np2
    have g2 : upd H1 p2 (.tup [.str gv, .str aw, .str tk]) p2 = some (.tup [.str gv, .str aw, .str tk]) := upd_same
    dsimp only
    generalize upd H1 p2 (HO.tup [.str gv, .str aw, .str tk]) = H2 at s2 g2 ⊢
    have s02 := s1.trans s2
    refine ⟨p2, _, rfl, SqT.of g2, rfl, _, _, rfl, _, _, rfl, _, _, rfl, rfl, ?_⟩
    refine ⟨_, rfl, gv, rfl, by omega, fun i hi G3 s3 => ?_, fun hi G3 s3 => qN (TX.three_none1 hi) G3 (s02.trans s3)⟩
    refine ⟨_, rfl, tk, rfl, by omega, fun j hj G4 s4 => ?_, fun hj G4 s4 => qN (TX.three_none2 hj) G4 (s02.trans (s3.trans s4))⟩
    refine ⟨_, rfl, mn, rfl, by omega, fun n hn G5 s5 => ⟨_, _, _, rfl, ?_⟩, fun hn G5 s5 => qN (TX.three_none3 hn) G5 (s02.trans (s3.trans (s4.trans s5)))⟩
    have s05 := s02.trans (s3.trans (s4.trans s5))
    have e3w : TX.threeW (TL.tl gv) (TL.tl tk) (TL.tl mn) = if i ≠ j ∧ i < 12 ∧ j < 12 then some (i, j, n) else none := by unfold TX.threeW; rw [hi, hj, hn]
    rw [e3w] at q qN
    have bad : ¬ (i ≠ j ∧ i < 12 ∧ j < 12) → E (.ref NT) none G5 := fun h => by rw [if_neg h] at qN; exact qN rfl G5 s05
    refine ⟨_, rfl, _, rfl, rfl, _, rfl, ite2 (fun h => bad fun y => y.1 (by have := V.int.inj (of_decide_eq_true h); omega)) (fun ha => ?_)⟩
    refine ⟨_, rfl, _, _, rfl, rfl, _, rfl, ite2 (fun h => bad fun y => by have := of_decide_eq_true h; omega) (fun hb => ?_)⟩
    refine ⟨_, rfl, _, _, rfl, rfl, _, rfl, ite2 (fun h => bad fun y => by have := of_decide_eq_true h; omega) (fun hc => ?_)⟩
    have good : i ≠ j ∧ i < 12 ∧ j < 12 := ⟨fun e => ha (decide_eq_true (by rw [e])), Nat.lt_of_not_le fun y => hb (decide_eq_true (by omega)), Nat.lt_of_not_le fun y => hc (decide_eq_true (by omega))⟩
    rw [if_pos good] at q
    refine ⟨_, rfl, _, rfl, _, rfl, by show 3 ≤ sizeLine; decide, fun t nt => ?_⟩
    refine q (i, j, n) rfl t _ (s05.trans (same_upd nt)) ?_ upd_same
    cases h : H t with
    | none => rfl
    | some o => have := s05 _ _ h; rw [nt] at this; cases this
/-- a plan as it is written -/
def spRp (NT : Addr) : Sp := fun vs H Q E => ∃ (x : V) (d : PyData), vs = [x] ∧ Dd H x d ∧ (∀ z, d = .str z → z.length ≤ 1000000 ∧ (∀ c ∈ TL.tl z, c < 1114112) ∧ (∀ rs, TX.planT (TL.tl z) = some rs → ∀ p H' (ts : List Addr), Same H H' → H' p = some (.tup (ts.map V.ref)) → RunsAt H' ts rs → Q (.ref p) H') ∧ (TX.planT (TL.tl z) = none → ∀ H', Same H H' → E (.ref NT) none H')) ∧ (isStrD d = false → ∀ H', Same H H' → E (.ref NT) none H')
theorem ok_rp {NT f fWd fRu : Addr} {fd fdWd fdRu : FuncData} {k : Nat} (F : Fun K "read_plan" "read_plan" sRp f fd)
    (FWd : Fun K "words_of" "words_of" sWd fWd fdWd) (bWd : Binds K fdWd ["text"] []) (gWd : mg "words_of" = some (.ref fWd)) (GWd : FnOk P w K mg base (L2.CX P w) (k + 1) fWd fdWd ["text"] (spWd NT))
    (FRu : Fun K "read_run" "read_run" sRu fRu fdRu) (bRu : Binds K fdRu ["word"] []) (gRu : mg "read_run" = some (.ref fRu)) (GRu : FnOk P w K mg base (L2.CX P w) (k + 4) fRu fdRu ["word"] (spRu NT))
    (m_tuple : mg "tuple" = none) : FnOk P w K mg base (L2.CX P w) (k + 5) f fd ["text"] (spRp NT) := by
  refine F.okX scRp (fun vs H Q E h => ?_) (fun cdv A outer s H vs Q E hr h => ?_)
  · obtain ⟨x, d, rfl, _⟩ := h
    rfl
  · obtain ⟨x, d, rfl, hd, q, qE⟩ := h
    have hr1 := hr.mono (show k + 1 ≤ k + 4 by omega)
    refine ⟨_, pss_cons (ps_set (i := 1) scRp.nd rfl (.inl rfl) (pe_call GWd hr1 (by rfl) gWd FWd.kp bWd .nil (passes_call (takes_of rfl rfl rfl rfl) (fun _ _ _ _ h => h)) (pa_cons (pv 0) pa_nil)))
      (pss_cons (ps_if (pt_cmpR (op_eqD hr.units) (pv 1) (pe_lst (pa_cons pe_str pa_nil)) (nomark _)) (pss_one (ps_ret (pe_tup pa_nil))) pss_nil)
      (pss_one (ps_ret (pe_callTy call_tuple_of (by rfl) m_tuple (by decide +kernel) (pa_cons (pe_lcX (own := [("word", 2)]) (g := gName 2) (tt := tYes) rfl scRp.nd rfl rfl (takes_of rfl rfl rfl rfl) (pi_list (pv 1)) (blkOk_by (N := nRp) (sc := defScope sRp) (by decide +kernel)) (fun _ _ _ _ _ => pg_name (i := 2) scRp.nd rfl (Or.inl rfl)) (fun _ _ _ _ _ => pts_nil) (fun _ _ _ _ _ _ _ out => pe_call GRu hr (by rfl) gRu FRu.kp bRu .nil out (pa_cons (pv 2) pa_nil))) pa_nil))))), ?_⟩
    refine ⟨x, rfl, x, d, rfl, hd, fun z hz => ?_, qE⟩
    obtain ⟨lz, oz, q, qN⟩ := q z hz
    refine ⟨lz, fun p H1 ys s1 np ep hy => ?_⟩
    have hlen : ys.length ≤ 1000001 := by
      have := congrArg List.length hy
      rw [List.length_map] at this
      have h2 := TX.sp_most 32 (TL.tl z) []
      have := TL.len_tl z
      omega
    refine ⟨_, rfl, by show 1 ≤ sizeLine; decide, fun l nl => ?_⟩
    have s2 : Same H1 (upd H1 l (.lst [.str "-"])) := same_upd nl
    have e2 : upd H1 l (.lst [.str "-"]) l = some (.lst ((["-"] : List Str).map V.str)) := upd_same
    generalize upd H1 l (HO.lst [.str "-"]) = H2 at s2 e2 ⊢
    have s02 := s1.trans s2
    have ep2 := s2 _ _ ep
    refine ⟨.list (ys.map PyData.str), .list ((["-"] : List Str).map PyData.str), .lst (SqL.of ep2) (dpStrsG ys), .lst (SqL.of e2) (dpStrsG _), shapedL_strs ys (fun y hy' => canStr fun c hc => ?_), shapedL_strs _ (fun x hx => by rw [List.mem_singleton.mp hx]; exact canDash), _, rfl, ?_⟩
    · rcases TX.sp_sub 32 (TL.tl z) [] (TL.tl y) (by rw [← hy]; exact List.mem_map.mpr ⟨y, hy', rfl⟩) c hc with h | h
      · exact absurd h List.not_mem_nil
      · exact oz c h
    rw [eqvL_strs]
    have dash : ys = [("-" : Str)] ↔ TX.sp 32 [] (TL.tl z) = [[45]] := by
      rw [← hy]
      constructor
      · intro e; rw [e]; show [TL.tl ("-" : Str)] = _; rw [eq_dash]
      · intro e
        have e2 : ys.map TL.tl = [("-" : Str)].map TL.tl := e.trans (by show _ = [TL.tl ("-" : Str)]; rw [eq_dash])
        exact TL.map_tl_inj e2
    refine ite2 (fun h => ?_) (fun h => ?_)
    · have h := dash.mp (of_decide_eq_true h)
      have e : TX.planT (TL.tl z) = some [] := by unfold TX.planT; rw [if_pos h]
      exact ⟨by show 0 ≤ sizeLine; decide, fun t nt => q [] e t _ [] (s02.trans (same_upd nt)) upd_same RunsAt.nil⟩
    have h : ¬ TX.sp 32 [] (TL.tl z) = [[45]] := fun y => h (decide_eq_true (dash.mpr y))
    have eP : TX.planT (TL.tl z) = TX.allN (ys.map fun y => TX.runT (TL.tl y)) := by
      unfold TX.planT
      rw [if_neg h, ← hy, List.map_map]; rfl
    rw [eP] at q qN
    refine ⟨_, rfl, p, rfl, ⟨_, SqL.of ep2⟩, fun D nD => ?_⟩
    refine lc_list (K := K) (a := p) (xs := ys.map V.str) (fun m G => Same H2 G ∧ ∃ (ts : List Addr) (rs : List (Nat × Nat × Nat)), G D = some (.lst (ts.map V.ref)) ∧ RunsAt G ts rs ∧ (ys.take m).map (fun y => TX.runT (TL.tl y)) = rs.map some) ⟨same_upd nD, [], [], upd_same, RunsAt.nil, rfl⟩ ?_ ?_ ?_
    · rintro m G _ ⟨sm, _⟩
      exact SqL.of (sm _ _ ep2)
    · rintro m v G hv ⟨sm, ts, rs, hD, hR, hns⟩
      rw [List.getElem?_map] at hv
      obtain ⟨y, hy', rfl⟩ := Option.map_eq_some_iff.mp hv
      have hm : m < ys.length := (List.getElem?_eq_some_iff.mp hy').1
      have ly : y.length ≤ 1000000 := by
        have := TX.sp_short 32 (TL.tl z) [] (TL.tl y) (by rw [← hy]; exact List.mem_map.mpr ⟨y, List.mem_of_getElem? hy', rfl⟩)
        rw [List.length_nil] at this
        have e1 := TL.len_tl z
        have e2 := TL.len_tl y
        omega
      have nl : ts.length = m := by
        have := congrArg List.length hns
        rw [List.length_map, List.length_map, List.length_take] at this
        rw [hR.1]
        omega
      refine ⟨rfl, _, rfl, y, rfl, ly, fun r hn t G2 s2' nt et => ?_, fun hn G2 s2' => ?_⟩
      · have hD2 := s2' _ _ hD
        refine ⟨_, hD2, by rw [List.length_map, nl, sizeLine_eq]; omega, fun b o hb => ?_, ts ++ [t], rs ++ [r], by rw [upd_same, List.map_append]; rfl, ?_, ?_⟩
        · rw [upd_ne (ne_of_none hb nD)]
          exact s2' _ _ (sm b o hb)
        · have kt : ∀ c xs, G2 c = some (.tup xs) → upd G2 D (.lst (ts.map V.ref ++ [.ref t])) c = some (.tup xs) := fun c xs h => by
            rw [upd_ne (fun y => by rw [y, hD2] at h; cases h)]
            exact h
          exact ((hR.mono fun c xs h => s2' _ _ h).snoc et).mono kt
        · rw [List.take_add_one, hy', List.map_append, hns, List.map_append]
          show _ ++ [TX.runT (TL.tl y)] = _
          rw [hn]; rfl
      · exact qN (TX.allN_none (List.mem_map.mpr ⟨y, List.mem_of_getElem? hy', hn⟩)) G2 (fun b o hb => s2' _ _ (sm _ _ (s02 b o hb)))
    · rintro G ⟨sm, ts, rs, hD, hR, hns⟩
      rw [List.length_map, List.take_length] at hns
      refine ⟨D, _, rfl, .inl ⟨SqL.of hD, fun t nt => ?_⟩⟩
      refine q rs (TX.allN_some.mpr hns) t _ ts (s02.trans (sm.trans (same_upd nt))) upd_same (hR.mono fun c xs h => same_upd nt _ _ h)
end
end K61

/-! MG: a run is its deeds -/
namespace MG
open PySem PySem.Spec PyProof.Rows L2
/-- a statement, a word that holds behind it, the rest -/
def tMid (t u : TS) : TS := fun D σ H => ∃ M : L2.St → Hp → Prop, t { D with nx := M } σ H ∧ ∀ σ1 H1, M σ1 H1 → u D σ1 H1
def setP (ns : List Int) (i j : Nat) (x : Int) : List Int := (ns.set i x).set j (ns.getD i 0 + ns.getD j 0 - x)
structure Two (ns : List Int) (i j p q : Nat) : Prop where
  hi : i < ns.length
  hj : j < ns.length
  ne : i ≠ j
  ei : ns.getD i 0 = p
  ej : ns.getD j 0 = q
  p0 : 0 < p
  q0 : 0 < q
theorem rep_one (z : Str) : repText z 1 = z := by
  unfold repText
  simp
/-- a text of one sign so many times, once too -/
theorem repS0 {X : Cx} : OpR X (binaryOp .Mult) (fun x y H Q => ∃ (z : Str) (n : Int), x = .str z ∧ y = .int n ∧ 1 ≤ n ∧ n ≤ 1000 ∧
    z.length = 1 ∧ (repText z n.toNat).length ≤ sizeLine ∧ Q (.str (repText z n.toNat)) H) := by
  rintro pins s σ H x y v u Q I rx ry ⟨z, n, hx, hy, h1, h2, hz, hs, q⟩
  by_cases h : n = 1
  · subst h
    subst hx hy
    obtain ⟨t, rfl⟩ := rx
    obtain ⟨t2, rfl⟩ := ry
    rw [show (1 : Int).toNat = 1 from rfl, rep_one] at q
    have c2 : ((1 : Int) == 1 || z.length == 0) = true := rfl
    refine PySem.P.mul_str rfl (fun _ e => by rw [c2] at e; cases e) (fun _ e => by rw [c2] at e; cases e) ?_
    rw [if_neg (by decide), if_pos c2]
    exact ⟨.str z, H, I, ⟨_, rfl⟩, q⟩
  · exact repS pins s σ H x y v u Q I rx ry ⟨z, n, hx, hy, by omega, h2, hz, hs, q⟩
end MG

/-! MG: the clause pair -/
namespace MG
open PySem PySem.Spec PyProof.Rows L2
/-- behind how many deeds the other one has a, from x at this one, s together -/
def du (s a : Nat) : Nat → Nat → Nat → Option Nat
  | 0, _, _ => none
  | f + 1, x, k => if s - x = a then some k else if x = 0 then none else du s a f (2 * x % s) (k + 1)
def optV : Option Nat → V
  | none => .non
  | some d => .int d
def cb2 (p q oi oj : Nat) : Bool := if oj = 0 then (du (p + q) oi (p + q) q 0).isSome else (du (p + q) oj (p + q) p 0).isSome
def pairB (r o : List Int) : Bool :=
  match hold r r.length with
  | [i, j] => cb2 (r.getD i.toNat 0).toNat (r.getD j.toNat 0).toNat (o.getD i.toNat 0).toNat (o.getD j.toNat 0).toNat
  | _ => true
def brkF (r o : List Int) : List Str := if r = o then [] else if r.length ≠ o.length then ["places"] else if clausesOf r o ≠ [] ∨ 3 ≤ (hold r r.length).length then clausesOf r o else if pairB r o = true then [] else ["pair"]
/-- what is asked of rows of two holders -/
def PairQ (r o : List Int) : Prop := ¬ r = o → r.length = o.length → clausesOf r o = [] → ¬ 3 ≤ (hold r r.length).length → (hold r r.length).length = 2 ∧ r.sum ≤ 100000
end MG

/-! MG: clauses of rows many times; rows of unit 1 -/
namespace MG
open PySem PySem.Spec PyProof.Rows L2
def sc (c : Int) (r : List Int) : List Int := r.map fun n => c * n
/-! ### rows of unit 1 -/
def oddc (l : List Int) : Nat := (l.filter fun n => decide (n % 2 = 1)).length
/-- a row: its unit's twos t, its measure m -/
structure Ru (r : List Int) (S : Int) (g k c : Nat) : Prop where
  nn : ∀ n ∈ r, 0 ≤ n
  sum : r.sum = S
  gl : gl r = g
  odd : oddc r = k
  cnt : MG.cnt r = c
end MG

/-! MG: two holders: what comes of doublings by rests -/
namespace MG
open PySem PySem.Spec PyProof.Rows L2
/-- the first one's amount behind m doublings, by rests of the sum -/
def Pr (p q u v : Nat) : Prop := ∃ m, p * 2 ^ m % (p + q) = u % (p + q) ∧ u + v = p + q
end MG

/-! MG: the broken clauses of rows laid in another order, with nothings, many times -/
namespace MG
open PySem PySem.Spec PyProof.Rows L2
/-- two entries whose first ones have something, the first pair's second ones come of them -/
def PH (Z : List (Int × Int)) : Prop := ∃ a b rest, Z.Perm (a :: b :: rest) ∧ 0 < a.1 ∧ 0 < b.1 ∧ Pr a.1.toNat b.1.toNat a.2.toNat b.2.toNat
/-- two pairs of rows, one laid from the other with nothings beside -/
structure Alike (r o r' o' : List Int) (k : Nat) : Prop where
  l : r.length = o.length
  l' : r'.length = o'.length
  pm : (r'.zip o').Perm (r.zip o ++ List.replicate k (0, 0))
end MG

/-! MG: what comes of what comes -/
namespace MG
open PySem PySem.Spec PyProof.Rows L2
/-- no clause of any row is broken -/
structure Cl (r o : List Int) : Prop where
  sum : o.sum = r.sum
  hf : hfn r o = false
  ms : MG.ms o = MG.ms r
  tw : v2 (gl r) ≤ v2 (gl o)
  od : v2 (gl o) = v2 (gl r) → MG.od o ≤ MG.od r
  dbl : v2 (gl o) = v2 (gl r) → MG.od o ≠ (hold o o.length).length
end MG

/-! MG: broken of alike rows, of rows many times, of deeds -/
namespace MG
open PySem PySem.Spec PyProof.Rows L2
/-! ### rows laid in an order, with a nothing -/
end MG

/-! MG: wishes -/
namespace MG
open PySem PySem.Spec PyProof.Rows L2
/-- the wishes as a row, 0 for none -/
def wA (ws : List (Option Int)) : List Int := ws.map fun w => w.getD 0
def isFr (r : List Int) (ws : List (Option Int)) (j : Nat) : Bool := (ws.getD j (some 0)).isNone && decide (0 < r.getD j 0)
/-- the places that are free -/
def free (r : List Int) (ws : List (Option Int)) (i : Nat) : List Int := ((List.range i).filter (isFr r ws)).map fun (j : Nat) => (j : Int)
def Meets (ws : List (Option Int)) (o : List Int) : Prop := o.length = ws.length ∧ ∀ (p : Nat) (v : Int), ws[p]? = some (some v) → o[p]? = some v
def fillF (r : List Int) (ws : List (Option Int)) : Option (List Int) :=
  if r.sum - (wA ws).sum < 0 ∨ (0 < r.sum - (wA ws).sum ∧ free r ws ws.length = []) then none
  else if 1 < (free r ws ws.length).length ∧ 2 * (gl r : Int) < r.sum - (wA ws).sum then
    some (((wA ws).set ((free r ws ws.length).getLastD 0).toNat (2 * (gl r : Int))).set ((free r ws ws.length).headD 0).toNat (r.sum - (wA ws).sum - 2 * (gl r : Int)))
  else if free r ws ws.length = [] then some (wA ws) else some ((wA ws).set ((free r ws ws.length).headD 0).toNat (r.sum - (wA ws).sum))
def wishF (r : List Int) (ws : List (Option Int)) : Option (List Int) :=
  match fillF r ws with
  | some o => if brkT r o = [] then some o else none
  | none => none
/-- what is beside the wishes -/
def restW : List (Option Int) → List Int → List Int
  | none :: ws, n :: o => n :: restW ws o
  | some _ :: ws, _ :: o => 0 :: restW ws o
  | _, _ => []
/-- what is known of a row that comes -/
structure Knows (r o : List Int) : Prop where
  len : o.length = r.length
  sum : o.sum = r.sum
  noth : ∀ p, r.getD p 0 = 0 → o.getD p 0 = 0
  dv : ∀ n ∈ o, (gl r : Int) ∣ n
  odd : (o.map (oddF (v2 (gl r)))).sum ≤ (r.map (oddF (v2 (gl r)))).sum
end MG

/-! MG: wishes filled -/
namespace MG
open PySem PySem.Spec PyProof.Rows L2
def wV : Option Int → V
  | none => .non
  | some v => .int v
/-- the forms in which wishes are filled -/
inductive Fill (r : List Int) (ws : List (Option Int)) : List Int → Prop
  | none (h : free r ws ws.length = []) (hs : r.sum = (wA ws).sum) : Fill r ws (wA ws)
  | one (p : Nat) (h : ws[p]? = some Option.none) (h0 : 0 < r.getD p 0) (hl : 0 ≤ r.sum - (wA ws).sum) (hh : (free r ws ws.length).headD 0 = p)
      (hk : (free r ws ws.length).length ≤ 1 ∨ r.sum - (wA ws).sum ≤ 2 * (gl r : Int)) : Fill r ws ((wA ws).set p (r.sum - (wA ws).sum))
  | two (p q : Nat) (hp : ws[p]? = some Option.none) (hq : ws[q]? = some Option.none) (hp0 : 0 < r.getD p 0) (hq0 : 0 < r.getD q 0) (hne : p ≠ q) (hl : 2 * (gl r : Int) < r.sum - (wA ws).sum) :
      Fill r ws (((wA ws).set q (2 * (gl r : Int))).set p (r.sum - (wA ws).sum - 2 * (gl r : Int)))
end MG

/-! MG: parts of tuples, texts of rows or none -/
namespace MG
open PySem PySem.Spec PyProof.Rows L2
theorem cut_fromV {xs : List V} {n : Nat} (h : n ≤ xs.length) : cutV xs (some (n : Int)) none = xs.drop n := by
  unfold cutV
  rw [HT.sIx_none, HT.sIx_nat, Nat.min_eq_left h]
  exact List.take_of_length_le (by rw [List.length_drop]; exact Nat.le_refl _)
/-- a row or none, as data -/
def oD : Option (List Int) → PyData
  | none => .none
  | some o => rowDt o
end MG

/-! MJd: a tuple from behind -/
namespace MG
open PySem PySem.Spec PyProof.Rows L2 HT
/-- t[::-1] -/
def tBack (K : PySem.W.Frag) (te : TE) : TE := fun σ H Q => te σ H fun x H1 => ∃ a xs, x = .ref a ∧ SqT K H1 a xs ∧ ∀ p, H1 p = none → Q (.ref p) (upd H1 p (.tup xs.reverse))
section
variable {X : Cx} {pins : List (Addr × Obj)} {s : Shared} {σ : L2.St} {H : Hp}
/-- the slice object of [::-1] -/
theorem back_slice {Q : Value → Shared → Prop} {k : Nat} {p1 p2 p3 : Pos} (I : Inv X pins σ H s)
    (go : ∀ (sl : Addr) (s' : Shared) (u : Tok), Inv X pins σ H s' → s'.heap.IsSliceOf sl .none .none (.int (-1) u) → Q (.ref sl) s') :
    wpAny (model X.prog X.w) X.A (eval (.Slice none none (some (.UnaryOp .USub (.Constant (.int 1) k p1) p2)) p3) X.env) Q X.xe s := by
  have step : PO X (some (.UnaryOp .USub (.Constant (.int 1) k p1) p2)) _ := po_some (pe_un un_neg pe_int)
  have none_ : ∀ {s : Shared} {R : Value → Shared → Prop}, Inv X pins σ H s → (∀ s', Inv X pins σ H s' → R .none s') → wpAny (model X.prog X.w) X.A (evalPart none X.env) R X.xe s := fun J g =>
    thn (po_none.run pins _ σ H (fun o H' => o = none ∧ H' = H) J ⟨rfl, rfl⟩) fun v s' ⟨o, H', J', p, e, eh⟩ => by
      subst e eh
      cases p
      exact g s' J'
  refine wpAny_Slice (none_ I fun s1 I1 => none_ I1 fun s2 I2 => thn (step.run pins s2 σ H (fun o H' => o = some (-1) ∧ H' = H) I2 ⟨1, rfl, -1, rfl, rfl, rfl⟩) fun v s3 got => ?_)
  obtain ⟨o, H', I3, p, e, eh⟩ := got
  subst e eh
  cases p
  exact go _ _ _ (I3.kept (t' := s3.toks) fun b ob q => Heap.get?_push_of_some _ q) (Heap.IsSliceOf.new ..)
end
end MG

/-! MXc: texts from behind; rows and plans as they are written, put together -/
namespace MG
open PySem PySem.Spec PyProof.Rows L2 HT
/-- s[::-1]: as many signs, of the same ones -/
def tBackS (te : TE) : TE := fun σ H Q => te σ H fun x H1 => ∃ z : Str, x = .str z ∧ z.length ≤ sizeLine ∧ ∀ y : Str, y.length ≤ z.length → (∀ c ∈ TL.tl y, c ∈ TL.tl z) → Q (.str y) H1
section
variable {X : Cx} {pins : List (Addr × Obj)} {s : Shared} {σ : L2.St} {H : Hp}
theorem back_len (n : Nat) : (Builtin.Str.strSliceIndices none none (-1) n).length = n := by
  rw [PyProof.Rows.picked_rev, List.length_map, List.length_range]
theorem pick_len {z : Str} (l : List Nat) : (l.filterMap (z.cps[·]?)).length ≤ l.length := List.length_filterMap_le _ _
theorem pick_mem {z : Str} {l : List Nat} : ∀ c ∈ l.filterMap (z.cps[·]?), c ∈ TL.tl z := fun c h => by
  obtain ⟨i, _, e⟩ := List.mem_filterMap.mp h
  rw [← Array.getElem?_toList] at e
  exact List.mem_of_getElem? e
theorem pe_revS {e : Expr} {te : TE} {k : Nat} {p1 p2 p3 pos : Pos} (he : PE X e te) : PE X (.Subscript e (.Slice none none (some (.UnaryOp .USub (.Constant (.int 1) k p1) p2)) p3) pos) (tBackS te) :=
  ⟨fun pins s σ H Q I h => Subscript_ (thn (he.run pins s σ H _ I h) fun v s1 got => by
    obtain ⟨x, H1, I1, rx, z, rfl, lz, want⟩ := got
    obtain ⟨t, rfl⟩ := rx
    refine back_slice I1 fun sl s2 u I2 sli => ?_
    refine tail_any (ops := [.str z t, .ref sl]) (typeIs_str _ _ _) F.slot_str_getitem.lookup (wpAny_getItem_str_slice (l := none) (u := none) (st := some (-1, u)) sli rfl ?_) (by with_unfolding_all rfl)
    have lp : ((Builtin.Str.strSliceIndices none none (-1) z.length).filterMap (z.cps[·]?)).length ≤ z.length := Nat.le_trans (pick_len _) (Nat.le_of_eq (back_len _))
    have le : (⟨((Builtin.Str.strSliceIndices none none (-1) z.length).filterMap (z.cps[·]?)).toArray⟩ : Str).length ≤ z.length := by
      show (List.toArray _).size ≤ _
      rw [List.size_toArray]
      exact lp
    refine ⟨Nat.le_trans le lz, .str _, H1, I2.tok _, ⟨_, rfl⟩, want _ le fun c hc => pick_mem c hc⟩)⟩
end
end MG
namespace TX
open PySem TL
/-- a text of so many signs at most, all of them real ones -/
def Tok (z : Str) (n : Nat) : Prop := z.length ≤ n ∧ ∀ c ∈ tl z, c < 1114112
theorem Tok.le {z : Str} {n m : Nat} (h : Tok z n) (l : n ≤ m) : Tok z m := ⟨Nat.le_trans h.1 l, h.2⟩
def runL (r : Nat × Nat × Nat) : List Nat := numL r.1 ++ 62 :: (numL r.2.1 ++ 42 :: numL r.2.2)
def GoodRun (r : Nat × Nat × Nat) : Prop := r.1 < 12 ∧ r.2.1 < 12 ∧ r.1 ≠ r.2.1 ∧ r.2.2 < 10 ^ 30
def rowL (ns : List Nat) : List Nat := joinL [32] (ns.map numL)
def planL (rs : List (Nat × Nat × Nat)) : List Nat := if rs = [] then [45] else joinL [32] (rs.map runL)
theorem mem_sumN : ∀ {l : List Nat} {n : Nat}, n ∈ l → n ≤ l.sum
  | a :: l, n, h => by
    rw [List.sum_cons]
    rcases List.mem_cons.mp h with e | h
    · omega
    · have := mem_sumN h; omega
theorem join_len {S : List Nat} : ∀ ps : List (List Nat), (joinL S ps).length ≤ (ps.map fun p => p.length + S.length).sum
  | [] => Nat.le_refl _
  | [p] => by show p.length ≤ (p.length + S.length) + 0; omega
  | p :: q :: r => by
    have ih := join_len (S := S) (q :: r)
    have e : (joinL S (p :: q :: r)).length = p.length + (S.length + (joinL S (q :: r)).length) := by
      show (p ++ (S ++ joinL S (q :: r))).length = _
      rw [List.length_append, List.length_append]
    rw [e, List.map_cons, List.sum_cons]
    omega
theorem join_mem {S : List Nat} {c : Nat} : ∀ ps : List (List Nat), c ∈ joinL S ps → c ∈ S ∨ ∃ p ∈ ps, c ∈ p
  | [], h => nomatch h
  | [p], h => .inr ⟨p, List.mem_cons_self, h⟩
  | p :: q :: r, h => by
    have h : c ∈ p ++ (S ++ joinL S (q :: r)) := h
    rcases List.mem_append.mp h with h | h
    · exact .inr ⟨p, List.mem_cons_self, h⟩
    rcases List.mem_append.mp h with h | h
    · exact .inl h
    · rcases join_mem (q :: r) h with h | ⟨x, hx, h⟩
      · exact .inl h
      · exact .inr ⟨x, List.mem_cons_of_mem _ hx, h⟩
/-- joined by one sign -/
theorem join_tok {y : Str} {s n : Nat} (ey : tl y = [s]) (hs : s < 1114112) {parts : List Str} (h : ∀ p ∈ parts, Tok p n) : Tok (Txt.join y parts) (parts.length * (n + 1)) ∧ tl (Txt.join y parts) = joinL [s] (parts.map tl) := by
  have e : tl (Txt.join y parts) = joinL [s] (parts.map tl) := by rw [join_eq, tl_join, ey]
  refine ⟨⟨?_, fun c hc => ?_⟩, e⟩
  · rw [len_tl, e]
    refine Nat.le_trans (join_len _) ?_
    have : ∀ l : List Str, (∀ p ∈ l, Tok p n) → ((l.map tl).map fun p => p.length + 1).sum ≤ l.length * (n + 1) := fun l => by
      induction l with
      | nil => intro _; exact Nat.zero_le _
      | cons p l ih =>
        intro h
        have h1 := (h p List.mem_cons_self).1
        have h2 := ih fun q hq => h q (List.mem_cons_of_mem _ hq)
        have e : (p :: l).length * (n + 1) = l.length * (n + 1) + (n + 1) := by rw [List.length_cons]; exact Nat.succ_mul _ _
        rw [len_tl] at h1
        rw [e, List.map_cons, List.map_cons, List.sum_cons]
        omega
    exact this parts h
  · rw [e] at hc
    rcases join_mem _ hc with h' | ⟨p, hp, h'⟩
    · rw [List.mem_singleton.mp h']; exact hs
    · obtain ⟨q, hq, rfl⟩ := List.mem_map.mp hp
      exact (h q hq).2 c h'
theorem num_tok {n : Nat} {k : Nat} (hk : 0 < k) (h : n < 10 ^ k) : Tok (Str.ofString (toString ((n : Nat) : Int))) k := by
  refine ⟨by rw [len_tl, tl_num]; exact numL_len hk h, fun c hc => ?_⟩
  rw [tl_num] at hc
  have := numL_digits n c hc
  omega
theorem cat_tok {a b : Str} {n m : Nat} (ha : Tok a n) (hb : Tok b m) : Tok (a ++ b) (n + m) := by
  refine ⟨?_, fun c hc => ?_⟩
  · have h1 := len_tl (a ++ b)
    rw [tl_append, List.length_append, ← len_tl, ← len_tl] at h1
    have := ha.1; have := hb.1
    omega
  · rw [tl_append] at hc
    rcases List.mem_append.mp hc with h | h
    · exact ha.2 c h
    · exact hb.2 c h
end TX

namespace K61
open PySem PySem.Spec PyProof.Rows L2 MG
abbrev sNum : Stmt := topS 30
abbrev nNum : List Str := ["_law_box_here"]
theorem scNum : FnScope ["_law_box_here"] ["_law_box_here"] (defScope sNum) := ⟨rfl, rfl, rfl, by decide +kernel, rfl, by decide +kernel, by decide +kernel⟩
abbrev sAr : Stmt := topS 31
abbrev nAr : List Str := ["_law_box_here", "_law_turn", "_law_found"]
theorem scAr : FnScope ["_law_box_here", "_law_turn", "_law_found"] ["_law_box_here"] (defScope sAr) := ⟨rfl, rfl, rfl, by decide +kernel, rfl, by decide +kernel, by decide +kernel⟩
abbrev sPln : Stmt := topS 32
abbrev nPln : List Str := ["_law_box_here", "_law_found", "_law_turn", "_law_i"]
theorem scPln : FnScope ["_law_box_here", "_law_found", "_law_turn", "_law_i"] ["_law_box_here"] (defScope sPln) := ⟨rfl, rfl, rfl, by decide +kernel, rfl, by decide +kernel, by decide +kernel⟩
theorem pw_of (i j : Int) (a : 0 ≤ j) (b : j ≤ 1000000) (c : i.natAbs < 2 ^ 64) : CPow i j := ⟨a, b, c⟩
theorem box_ne {G : Hp} {b u : Addr} {m : Nat} (hb : Box G b m) (hu : G u = none) : b ≠ u := by
  obtain ⟨bo, bz⟩ := hb.get
  exact ne_of_none bz hu
theorem box_tup {G : Hp} {z b : Addr} {xs : List V} {m : Nat} (hB : Box G b m) (hz : G z = some (.tup xs)) : z ≠ b := fun w => by
  obtain ⟨_, _, _, e, _⟩ := hB
  rw [w, e] at hz
  cases hz
section
variable {P : Program} {w : World} {K : PySem.W.Frag} {mg : Str → Option Value} {base : Heap}
def spNum : Sp := fun vs H Q _ => ∃ (b : Addr) (n : Nat), vs = [.ref b] ∧ Box H b n ∧ n ≤ 900000 ∧ ∀ (v : Nat) H', v < 10 ^ 30 → SX b H H' → Box H' b (n + 3) → Q (.int (v : Nat)) H'
theorem ok_num {f fT fO : Addr} {fd fdT fdO : FuncData} {k : Nat} (F : Fun K "_law_number" "_law_number" sNum f fd)
    (FT : Fun K "_law_take" "_law_take" sTake fT fdT) (bT : Binds K fdT ["_law_box_here", "_law_many"] []) (gT : mg "_law_take" = some (.ref fT))
    (FO : Fun K "_law_of" "_law_of" sOf fO fdO) (bO : Binds K fdO ["_law_box_here", "_law_some"] []) (gO : mg "_law_of" = some (.ref fO)) (m_len : mg "len" = none) : FnOk P w K mg base CX0 (k + 3) f fd ["_law_box_here"] spNum := by
  have GT : FnOk P w K mg base CX0 (k + 1) fT fdT ["_law_box_here", "_law_many"] spTake := ok_take FT
  have GO : FnOk P w K mg base CX0 (k + 2) fO fdO ["_law_box_here", "_law_some"] spOf := ok_of FO FT bT gT m_len
  refine F.ok scNum (fun vs H Q E h => ?_) (fun cdv A outer s H vs Q E hr h => ?_)
  · obtain ⟨b, n, rfl, _⟩ := h
    rfl
  · obtain ⟨b, n, rfl, hB, hn, want⟩ := h
    have hr2 := hr
    have hr1 := hr.mono (show k + 1 ≤ k + 2 by omega)
    refine ⟨_, pss_one (ps_ret (pe_call GO hr2 (by rfl) gO FO.kp bO .nil pass0 (pa_cons (pv 0) (pa_cons (pe_lst (pa_cons pe_int (pa_cons pe_int (pa_cons pe_int (pa_cons pe_int (pa_cons (pe_call GT hr1 (by rfl) gT FT.kp bT .nil pass0 (pa_cons (pv 0) (pa_cons pe_int pa_nil))) (pa_cons (pe_call GT hr1 (by rfl) gT FT.kp bT .nil pass0 (pa_cons (pv 0) (pa_cons (pe_op op_pow pe_int pe_int) pa_nil))) (pa_cons (pe_op op_pow pe_int pe_int) (pa_cons (pe_op op_sub (pe_op op_pow pe_int pe_int) pe_int) pa_nil))))))))) pa_nil)))), ?_⟩
    refine ⟨_, rfl, _, rfl, b, 100, _, rfl, hB, by omega, by decide, by decide, fun u1 G1 u10 u11 B1 k1 => ?_⟩
    refine ⟨_, rfl, 10, 15, rfl, rfl, pw_of _ _ (by decide) (by decide) (by decide), b, _, _, rfl, B1, by omega, by decide +kernel, by decide +kernel, fun u2 G2 u20 u21 B2 k2 => ?_⟩
    refine ⟨10, 29, rfl, rfl, pw_of _ _ (by decide) (by decide) (by decide), 10, 30, rfl, rfl, pw_of _ _ (by decide) (by decide) (by decide), _, 1, rfl, rfl, by show 8 ≤ sizeLine; decide, fun l nl => ?_⟩
    have x2 : SX b H G2 := (SX.of_eq k1).trans (.of_eq k2)
    refine ⟨b, l, _, _, rfl, B2.new nl, by omega, upd_same, box_ne B2 nl, by show 1 ≤ 8; decide, by show 8 ≤ 1000; decide, fun x G3 hx B3 k3 => ?_⟩
    have x3 : SX b H G3 := (x2.new nl).trans (.of_eq k3)
    have key : ∀ v : Int, 0 ≤ v → v < 10 ^ 30 → Q (.int v) G3 := fun v h0 h1 => by
      obtain ⟨m, rfl⟩ := Int.eq_ofNat_of_zero_le h0
      exact want m G3 (by omega) x3 (B3.le (by omega))
    have e15 : (10 : Int) ^ (15 : Int).toNat = 1000000000000000 := by decide +kernel
    have u21 : u2 < 10 ^ (15 : Int).toNat := u21
    rw [e15] at u21
    simp only [List.mem_cons, List.not_mem_nil, or_false] at hx
    rcases hx with h | h | h | h | h | h | h | h
    · rw [h]; exact key _ (by decide) (by decide)
    · rw [h]; exact key _ (by decide) (by decide)
    · rw [h]; exact key _ (by decide) (by decide)
    · rw [h]; exact key _ (by decide) (by decide)
    · rw [h]; exact key _ u10 (by omega)
    · rw [h]; exact key _ u20 (by omega)
    · rw [h]; exact key _ (by decide +kernel) (by decide +kernel)
    · rw [h]; exact key _ (by decide +kernel) (by decide +kernel)
theorem sum_cap : ∀ {ns : List Nat} {B : Nat}, (∀ n ∈ ns, n ≤ B) → ns.sum ≤ ns.length * B
  | [], _, _ => Nat.zero_le _
  | a :: l, B, h => by
    have h1 := h a List.mem_cons_self
    have h2 := sum_cap fun n hn => h n (List.mem_cons_of_mem _ hn)
    rw [List.sum_cons, List.length_cons, Nat.succ_mul]
    omega
def spAr : Sp := fun vs H Q _ => ∃ (b : Addr) (n : Nat), vs = [.ref b] ∧ Box H b n ∧ n ≤ 800000 ∧ ∀ p H' (ns : List Nat), ns.length ≤ 12 → 0 < ns.sum → ns.sum < 10 ^ 30 → SX b H H' → Box H' b (n + 40) → H' p = some (.tup (intsV ns)) → Q (.ref p) H'
theorem ok_ar {f fT fO fNu : Addr} {fd fdT fdO fdNu : FuncData} {k : Nat} (F : Fun K "_law_any_row" "_law_any_row" sAr f fd)
    (FT : Fun K "_law_take" "_law_take" sTake fT fdT) (bT : Binds K fdT ["_law_box_here", "_law_many"] []) (gT : mg "_law_take" = some (.ref fT))
    (FO : Fun K "_law_of" "_law_of" sOf fO fdO) (bO : Binds K fdO ["_law_box_here", "_law_some"] []) (gO : mg "_law_of" = some (.ref fO))
    (FNu : Fun K "_law_number" "_law_number" sNum fNu fdNu) (bNu : Binds K fdNu ["_law_box_here"] []) (gNu : mg "_law_number" = some (.ref fNu)) (GNu : FnOk P w K mg base CX0 (k + 3) fNu fdNu ["_law_box_here"] spNum)
    (m_len : mg "len" = none) (m_range : mg "range" = none) (m_sum : mg "sum" = none) (m_tuple : mg "tuple" = none) : FnOk P w K mg base CX0 (k + 4) f fd ["_law_box_here"] spAr := by
  have GO : FnOk P w K mg base CX0 (k + 2) fO fdO ["_law_box_here", "_law_some"] spOf := ok_of FO FT bT gT m_len
  refine F.ok scAr (fun vs H Q E h => ?_) (fun cdv A outer s H vs Q E hr h => ?_)
  · obtain ⟨b, n, rfl, _⟩ := h
    rfl
  · obtain ⟨b, n, rfl, hB, hn, want⟩ := h
    have hr3 := hr
    have hr2 := hr.mono (show k + 2 ≤ k + 3 by omega)
    refine ⟨_, pss_cons (ps_setLc (i := 2) (own := [("_law_turn", 1)]) (g := gName 1) (tt := tYes) rfl scAr.nd rfl rfl (sw_true rfl rfl rfl (by decide +kernel)) (pi_range1 (by rfl) m_range (pa_cons (pe_call GO hr2 (by rfl) gO FO.kp bO .nil pass0 (pa_cons (pv 0) (pa_cons (pe_lst (pa_cons pe_int (pa_cons pe_int (pa_cons pe_int (pa_cons pe_int (pa_cons pe_int pa_nil)))))) pa_nil))) pa_nil)) (blkOk_by (N := nAr) (sc := defScope sAr) (by decide +kernel)) (fun _ _ _ _ _ => pg_name (i := 1) scAr.nd rfl (Or.inl rfl)) (fun _ _ _ _ _ => pts_nil) (fun _ _ _ _ _ => pe_op op_fdiv (pe_call GNu hr3 (by rfl) gNu FNu.kp bNu .nil pass0 (pa_cons (pv 0) pa_nil)) pe_int))
      (pss_one (ps_ret (pe_ifExp (pt_cmpR op_gt (pe_callB (cr_sum rfl) (by rfl) m_sum (by decide +kernel) (pa_cons (pv 2) pa_nil)) pe_int (nomark _)) (pe_callTy call_tuple_of (by rfl) m_tuple (by decide +kernel) (pa_cons (pv 2) pa_nil)) (pe_callTy call_tuple_of (by rfl) m_tuple (by decide +kernel) (pa_cons (pe_op op_cat (pe_slice sl_list (pv 2) (po_some pe_int) po_none) (pe_lst (pa_cons pe_int pa_nil))) pa_nil))))), ?_⟩
    refine ⟨_, rfl, by show 5 ≤ sizeLine; decide, fun l nl => ?_⟩
    refine ⟨b, l, _, _, rfl, hB.new nl, by omega, upd_same, box_ne hB nl, by show 1 ≤ 5; decide, by show 5 ≤ 1000; decide, fun x G1 hx B1 k1 => ?_⟩
    have x1 : SX b H G1 := ((SX.refl b H).new nl).trans (.of_eq k1)
    obtain ⟨c, rfl, c1, c2⟩ : ∃ c : Nat, x = .int (c : Nat) ∧ 1 ≤ c ∧ c ≤ 12 := by
      simp only [List.mem_cons, List.not_mem_nil, or_false] at hx
      rcases hx with h | h | h | h | h
      · exact ⟨1, h, by decide, by decide⟩
      · exact ⟨2, h, by decide, by decide⟩
      · exact ⟨3, h, by decide, by decide⟩
      · exact ⟨4, h, by decide, by decide⟩
      · exact ⟨12, h, by decide, by decide⟩
    refine ⟨(c : Int), rfl, by omega, by omega, fun D nD => ?_⟩
    rw [Int.toNat_natCast]
    have bD := box_ne B1 nD
    refine lc_range (lo := 0) (n := c) (fun i G => SX b H G ∧ Box G b (n + 1 + 3 * i) ∧ ∃ ns : List Nat, G D = some (.lst (intsV ns)) ∧ ns.length = i ∧ ∀ m ∈ ns, m ≤ (10 ^ 30 - 1) / 12) ⟨x1.new nD, B1.new nD, [], upd_same, rfl, fun m h => nomatch h⟩ ?_ ?_
    · rintro i G hi ⟨xG, BG, ns, eD, nl', le⟩
      refine ⟨rfl, ?_⟩
      refine ⟨_, rfl, b, _, rfl, BG, by omega, fun v G2 hv x2 B2 => ?_⟩
      refine ⟨_, 12, rfl, rfl, ⟨by decide, by decide⟩, ?_⟩
      have eD2 := x2 _ _ bD.symm eD
      have ev : ((v : Nat) : Int) / 12 = ((v / 12 : Nat) : Int) := by omega
      dsimp only
      rw [ev]
      refine ⟨_, eD2, by rw [List.length_map, nl']; exact small1000 (by omega), SX.set (xG.trans x2) ?_, (B2.set bD).le (by omega), ns ++ [v / 12], by rw [upd_same]; unfold intsV; rw [List.map_append]; rfl, by rw [List.length_append, nl']; rfl, fun m hm => ?_⟩
      · cases h : H D with
        | none => rfl
        | some o => have := x1 D o bD.symm h; rw [nD] at this; cases this
      · rcases List.mem_append.mp hm with h | h
        · exact le m h
        · rw [List.mem_singleton.mp h]; omega
    · rintro G ⟨xG, BG, ns, eD, nl', le⟩
      have cap := sum_cap le
      rw [nl'] at cap
      have top : ns.sum < 10 ^ 30 := by
        have : c * ((10 ^ 30 - 1) / 12) ≤ 12 * ((10 ^ 30 - 1) / 12) := Nat.mul_le_mul_right _ c2
        omega
      have eV : intsV ns = (ns.map fun (n : Nat) => (n : Int)).map V.int := by unfold intsV; rw [List.map_map]; rfl
      have cast : (ns.map fun (n : Nat) => (n : Int)).sum = ((ns.sum : Nat) : Int) := by
        clear want hx cap top eD le nl' eV
        induction ns with
        | nil => rfl
        | cons a l ih => rw [List.map_cons, List.sum_cons, ih, List.sum_cons, Int.natCast_add]
      refine ⟨_, rfl, D, _, rfl, SqL.of (by rw [← eV]; exact eD), ?_⟩
      rw [cast]
      refine ⟨_, _, rfl, rfl, _, rfl, ite2 (fun h1 => ?_) (fun h1 => ?_)⟩
      · have h1 := of_decide_eq_true h1
        refine ⟨_, rfl, D, _, rfl, .inl ⟨SqL.of eD, fun t nt => ?_⟩⟩
        exact want t _ ns (by omega) (by omega) top (xG.new nt) ((BG.new nt).le (by omega)) upd_same
      · have z : ns.sum = 0 := by
          refine Classical.byContradiction fun y => h1 (decide_eq_true (by omega))
        refine ⟨_, rfl, 1, rfl, ?_⟩
        dsimp only [tNoPart]
        refine ⟨D, _, rfl, SqL.of eD, fun p np => ?_⟩
        rw [show cutV (intsV ns) (some 1) none = (intsV ns).drop 1 from cut_fromV (xs := intsV ns) (n := 1) (by unfold intsV; rw [List.length_map]; omega)]
        have e1 : (intsV ns).drop 1 = intsV (ns.drop 1) := by unfold intsV; rw [List.map_drop]
        rw [e1]
        refine ⟨by show 1 ≤ sizeLine; decide, fun l2 nl2 => ?_⟩
        refine ⟨p, l2, _, _, rfl, rfl, same_upd nl2 _ _ upd_same, upd_same, by unfold intsV; rw [List.length_map, List.length_drop, sizeLine_eq]; show _ + 1 ≤ _; omega, fun l3 nl3 => ⟨l3, _, rfl, .inl ⟨SqL.of upd_same, fun t nt => ?_⟩⟩⟩
        have zs : ∀ m ∈ ns, m = 0 := fun m hm => by have := TX.mem_sumN hm; omega
        have ds : (ns.drop 1).sum = 0 := by
          have := sum_cap (ns := ns.drop 1) (B := 0) fun m hm => Nat.le_of_eq (zs m (List.mem_of_mem_drop hm))
          omega
        refine want t _ (ns.drop 1 ++ [1]) (by rw [List.length_append, List.length_drop]; show _ + 1 ≤ 12; omega) (by rw [List.sum_append, ds]; decide) (by rw [List.sum_append, ds]; decide +kernel) ((((xG.new np).new nl2).new nl3).new nt) (((((BG.new np).new nl2).new nl3).new nt).le (by omega)) ?_
        rw [upd_same]
        unfold intsV
        rw [List.map_append]
        rfl
def spPln : Sp := fun vs H Q _ => ∃ (b : Addr) (n : Nat), vs = [.ref b] ∧ Box H b n ∧ n ≤ 800000 ∧ ∀ p H' (ts : List Addr) (rs : List (Nat × Nat × Nat)), rs.length ≤ 20 → (∀ r ∈ rs, TX.GoodRun r) → SX b H H' → Box H' b (n + 120) → H' p = some (.tup (ts.map V.ref)) → RunsAt H' ts rs → Q (.ref p) H'
theorem ok_pln {f fT fO fNu : Addr} {fd fdT fdO fdNu : FuncData} {k : Nat} (F : Fun K "_law_plan" "_law_plan" sPln f fd)
    (FT : Fun K "_law_take" "_law_take" sTake fT fdT) (bT : Binds K fdT ["_law_box_here", "_law_many"] []) (gT : mg "_law_take" = some (.ref fT))
    (FO : Fun K "_law_of" "_law_of" sOf fO fdO) (bO : Binds K fdO ["_law_box_here", "_law_some"] []) (gO : mg "_law_of" = some (.ref fO))
    (FNu : Fun K "_law_number" "_law_number" sNum fNu fdNu) (bNu : Binds K fdNu ["_law_box_here"] []) (gNu : mg "_law_number" = some (.ref fNu)) (GNu : FnOk P w K mg base CX0 (k + 3) fNu fdNu ["_law_box_here"] spNum)
    (m_len : mg "len" = none) (m_range : mg "range" = none) (m_tuple : mg "tuple" = none) : FnOk P w K mg base CX0 (k + 4) f fd ["_law_box_here"] spPln := by
  have GT : FnOk P w K mg base CX0 (k + 1) fT fdT ["_law_box_here", "_law_many"] spTake := ok_take FT
  have GO : FnOk P w K mg base CX0 (k + 2) fO fdO ["_law_box_here", "_law_some"] spOf := ok_of FO FT bT gT m_len
  refine F.ok scPln (fun vs H Q E h => ?_) (fun cdv A outer s H vs Q E hr h => ?_)
  · obtain ⟨b, n, rfl, _⟩ := h
    rfl
  · obtain ⟨b, n, rfl, hB, hn, want⟩ := h
    have hr3 := hr
    have hr2 := hr.mono (show k + 2 ≤ k + 3 by omega)
    have hr1 := hr.mono (show k + 1 ≤ k + 3 by omega)
    refine ⟨_, pss_cons (ps_set (i := 1) scPln.nd rfl (.inl rfl) (pe_lst pa_nil))
      (pss_cons (ps_for PassesOwn.never rfl (pi_range1 (by rfl) m_range (pa_cons (pe_call GO hr2 (by rfl) gO FO.kp bO .nil pass0 (pa_cons (pv 0) (pa_cons (pe_lst (pa_cons pe_int (pa_cons pe_int (pa_cons pe_int (pa_cons pe_int (pa_cons pe_int pa_nil)))))) pa_nil))) pa_nil)) (pg_name (i := 2) scPln.nd rfl (.inl rfl)) (pss_cons (ps_set (i := 3) scPln.nd rfl (.inl rfl) (pe_call GT hr1 (by rfl) gT FT.kp bT .nil pass0 (pa_cons (pv 0) (pa_cons pe_int pa_nil))))
      (pss_one (ps_expr (pe_bm PySem.F.plainAttrs_list PySem.F.slot_list_append PySem.F.type_list_append mt_append (pv 1) (pa_cons (pe_tup (pa_cons (pv 3) (pa_cons (pe_op op_mod (pe_op op_add (pe_op op_add (pv 3) pe_int) (pe_call GT hr1 (by rfl) gT FT.kp bT .nil pass0 (pa_cons (pv 0) (pa_cons pe_int pa_nil)))) pe_int) (pa_cons (pe_call GNu hr3 (by rfl) gNu FNu.kp bNu .nil pass0 (pa_cons (pv 0) pa_nil)) pa_nil)))) pa_nil))))))
      (pss_one (ps_ret (pe_callTy call_tuple_of (by rfl) m_tuple (by decide +kernel) (pa_cons (pv 1) pa_nil))))), ?_⟩
    refine ⟨by show 0 ≤ sizeLine; decide, fun fo nfo => ?_⟩
    have x0 : SX b H (upd H fo (.lst [])) := (SX.refl b H).new nfo
    have B0 := hB.new (o := .lst []) nfo
    have bfo := box_ne hB nfo
    have e0 : upd H fo (.lst []) fo = some (.lst []) := upd_same
    generalize upd H fo (HO.lst []) = G0 at x0 B0 e0 ⊢
    refine ⟨_, rfl, by show 5 ≤ sizeLine; decide, fun l nl => ?_⟩
    refine ⟨b, l, _, _, rfl, B0.new nl, by omega, upd_same, box_ne B0 nl, by show 1 ≤ 5; decide, by show 5 ≤ 1000; decide, fun x G1 hx B1 k1 => ?_⟩
    have x1 : SX b H G1 := (x0.new nl).trans (.of_eq k1)
    have e1 : G1 fo = some (.lst []) := by rw [k1 _ bfo.symm]; exact same_upd nl _ _ e0
    obtain ⟨c, rfl, c2⟩ : ∃ c : Nat, x = .int (c : Nat) ∧ c ≤ 20 := by
      simp only [List.mem_cons, List.not_mem_nil, or_false] at hx
      rcases hx with h | h | h | h | h
      · exact ⟨0, h, by decide⟩
      · exact ⟨1, h, by decide⟩
      · exact ⟨2, h, by decide⟩
      · exact ⟨3, h, by decide⟩
      · exact ⟨20, h, by decide⟩
    refine ⟨(c : Int), rfl, by omega, by omega, ?_⟩
    rw [Int.toNat_natCast]
    refine for_range (lo := 0) (n := c) (fun i σ G => ∃ (y2 y3 : Option V) (ts : List Addr) (rs : List (Nat × Nat × Nat)), σ = [some (.ref b), some (.ref fo), y2, y3] ∧ SX b H G ∧ Box G b (n + 1 + 5 * i) ∧ G fo = some (.lst (ts.map V.ref)) ∧ RunsAt G ts rs ∧ rs.length = i ∧ ∀ r ∈ rs, TX.GoodRun r) ⟨none, none, [], [], rfl, x1, B1, e1, RunsAt.nil, rfl, fun r h => nomatch h⟩ ?_ ?_
    · rintro i σ G hi ⟨y2, y3, ts, rs, rfl, xG, BG, ef, hR, hl, good⟩
      refine ⟨_, rfl, b, 12, _, rfl, BG, by omega, by decide, by decide, fun u G2 u0 u1 B2 k2 => ?_⟩
      obtain ⟨i', rfl⟩ := Int.eq_ofNat_of_zero_le u0
      have ef2 : G2 fo = some (.lst (ts.map V.ref)) := by rw [k2 _ bfo.symm]; exact ef
      refine ⟨_, rfl, .inl ⟨rfl, _, SqL.of ef2⟩, _, rfl, _, rfl, _, 1, rfl, rfl, _, rfl, b, 11, _, rfl, B2, by omega, by decide, by decide, fun u' G3 u0' u1' B3 k3 => ?_⟩
      obtain ⟨d, rfl⟩ := Int.eq_ofNat_of_zero_le u0'
      refine ⟨_, _, rfl, rfl, _, 12, rfl, rfl, by show (0 : Int) < 12; decide, ?_⟩
      dsimp only
      have ej : ((i' : Nat) : Int) + 1 + ((d : Nat) : Int) = ((i' + 1 + d : Nat) : Int) := by omega
      rw [ej, show ((i' + 1 + d : Nat) : Int) % 12 = (((i' + 1 + d) % 12 : Nat) : Int) by omega]
      refine ⟨_, rfl, b, _, rfl, B3, by omega, fun v G4 hv x4 B4 => ?_⟩
      refine ⟨by show 3 ≤ sizeLine; decide, fun t nt => ?_⟩
      have kt : ∀ a xs, G a = some (.tup xs) → upd G4 t (.tup ([V.int ((i' : Nat) : Int), V.int (((i' + 1 + d) % 12 : Nat) : Int), V.int ((v : Nat) : Int)])) a = some (.tup xs) := fun a xs h => by
        have nb := box_tup BG h
        exact same_upd nt _ _ (x4 _ _ nb (by rw [k3 _ nb, k2 _ nb]; exact h))
      have ef4 : upd G4 t (.tup ([V.int ((i' : Nat) : Int), V.int (((i' + 1 + d) % 12 : Nat) : Int), V.int ((v : Nat) : Int)])) fo = some (.lst (ts.map V.ref)) := same_upd nt _ _ (x4 _ _ bfo.symm (by rw [k3 _ bfo.symm]; exact ef2))
      have et : upd G4 t (.tup ([V.int ((i' : Nat) : Int), V.int (((i' + 1 + d) % 12 : Nat) : Int), V.int ((v : Nat) : Int)])) t = some (.tup ([V.int ((i' : Nat) : Int), V.int (((i' + 1 + d) % 12 : Nat) : Int), V.int ((v : Nat) : Int)])) := upd_same
      have x5 : SX b H (upd G4 t (.tup ([V.int ((i' : Nat) : Int), V.int (((i' + 1 + d) % 12 : Nat) : Int), V.int ((v : Nat) : Int)]))) := (((xG.trans (.of_eq k2)).trans (.of_eq k3)).trans x4).new nt
      have B5 := B4.new (o := .tup ([V.int ((i' : Nat) : Int), V.int (((i' + 1 + d) % 12 : Nat) : Int), V.int ((v : Nat) : Int)])) nt
      generalize upd G4 t (HO.tup ([V.int ((i' : Nat) : Int), V.int (((i' + 1 + d) % 12 : Nat) : Int), V.int ((v : Nat) : Int)])) = G5 at kt ef4 et x5 B5 ⊢
      have hts : ts.length = i := by rw [hR.1, hl]
      refine ⟨fo, _, _, rfl, rfl, ef4, by rw [List.length_map, hts]; exact small1000 (by omega), _, _, ts ++ [t], rs ++ [(i', (i' + 1 + d) % 12, v)], rfl, x5.set nfo, (B5.set bfo).le (by omega), by rw [upd_same, List.map_append]; rfl, ?_, by rw [List.length_append, hl]; rfl, fun r hr => ?_⟩
      · exact ((hR.mono kt).snoc et).mono fun a xs h => by
          rw [upd_ne (fun y => by rw [y, ef4] at h; cases h)]
          exact h
      · rcases List.mem_append.mp hr with h | h
        · exact good r h
        · rw [List.mem_singleton.mp h]
          refine ⟨by show i' < 12; omega, Nat.mod_lt _ (by decide), ?_, hv⟩
          show i' ≠ (i' + 1 + d) % 12
          omega
    · rintro σ G ⟨y2, y3, ts, rs, rfl, xG, BG, ef, hR, hl, good⟩
      refine ⟨_, rfl, fo, _, rfl, .inl ⟨SqL.of ef, fun t nt => ?_⟩⟩
      exact want t _ ts rs (by omega) good (xG.new nt) ((BG.new nt).le (by omega)) upd_same (hR.mono fun a xs h => same_upd nt _ _ h)
end
end K61

namespace K61
open PySem PySem.Spec PyProof.Rows L2 MG
abbrev sRt : Stmt := topS 33
abbrev nRt : List Str := ["_law_row", "_law_amount"]
theorem scRt : FnScope ["_law_row", "_law_amount"] ["_law_row"] (defScope sRt) := ⟨rfl, rfl, rfl, by decide +kernel, rfl, by decide +kernel, by decide +kernel⟩
abbrev sPtx : Stmt := topS 34
abbrev nPtx : List Str := ["_law_plan_here", "_law_i", "_law_j", "_law_k", "_law_some"]
theorem scPtx : FnScope ["_law_plan_here", "_law_i", "_law_j", "_law_k", "_law_some"] ["_law_plan_here"] (defScope sPtx) := ⟨rfl, rfl, rfl, by decide +kernel, rfl, by decide +kernel, by decide +kernel⟩
abbrev sNo : Stmt := topS 35
abbrev nNo : List Str := ["_law_text", "_law_sign"]
theorem scNo : FnScope ["_law_text", "_law_sign"] ["_law_text"] (defScope sNo) := ⟨rfl, rfl, rfl, by decide +kernel, rfl, by decide +kernel, by decide +kernel⟩
abbrev sRo : Stmt := topS 36
abbrev nRo : List Str := ["_law_text", "_law_part", "_law_found"]
theorem scRo : FnScope ["_law_text", "_law_part", "_law_found"] ["_law_text"] (defScope sRo) := ⟨rfl, rfl, rfl, by decide +kernel, rfl, by decide +kernel, by decide +kernel⟩
abbrev sUo : Stmt := topS 37
abbrev nUo : List Str := ["_law_text", "_law_parts", "_law_two", "_law_part", "_law_i", "_law_j", "_law_k"]
theorem scUo : FnScope ["_law_text", "_law_parts", "_law_two", "_law_part", "_law_i", "_law_j", "_law_k"] ["_law_text"] (defScope sUo) := ⟨rfl, rfl, rfl, by decide +kernel, rfl, by decide +kernel, by decide +kernel⟩
abbrev sPo : Stmt := topS 38
abbrev nPo : List Str := ["_law_text", "_law_part", "_law_found"]
theorem scPo : FnScope ["_law_text", "_law_part", "_law_found"] ["_law_text"] (defScope sPo) := ⟨rfl, rfl, rfl, by decide +kernel, rfl, by decide +kernel, by decide +kernel⟩
section
variable {P : Program} {w : World} {K : PySem.W.Frag} {mg : Str → Option Value} {base : Heap}
theorem log_small {n : Nat} (h : n < 10 ^ 30) : (((n : Nat) : Int)).natAbs.log2 < 1920 := by
  rw [Int.natAbs_natCast]
  by_cases z : n = 0
  · subst z; decide
  · exact Nat.lt_of_lt_of_le ((Nat.log2_lt z).mpr (Nat.lt_trans h (show 10 ^ 30 < 2 ^ 100 by decide))) (by decide)
def spRt : Sp := fun vs H Q _ => ∃ (a : Addr) (ns : List Nat), vs = [.ref a] ∧ H a = some (.tup (intsV ns)) ∧ ns.length ≤ 13 ∧ (∀ n ∈ ns, n < 10 ^ 30) ∧ ∀ (z : Str) H', Same H H' → TL.tl z = TX.rowL ns → TX.Tok z 500 → Q (.str z) H'
theorem ok_rt {f : Addr} {fd : FuncData} {k : Nat} (F : Fun K "_law_row_text" "_law_row_text" sRt f fd) (m_str : mg "str" = none) : FnOk P w K mg base CX0 (k + 1) f fd ["_law_row"] spRt := by
  refine F.ok scRt (fun vs H Q E h => ?_) (fun cdv A outer s H vs Q E hr h => ?_)
  · obtain ⟨a, ns, rfl, _⟩ := h
    rfl
  · obtain ⟨a, ns, rfl, ea, l13, le, want⟩ := h
    refine ⟨_, pss_one (ps_ret (pe_join pe_str (pe_lc (own := [("_law_amount", 1)]) (g := gName 1) (tt := tYes) rfl scRt.nd (pi_tup (pv 0)) (blkOk_by (N := nRt) (sc := defScope sRt) (by decide +kernel)) (fun _ _ _ _ _ => pg_name (i := 1) scRt.nd rfl (Or.inl rfl)) (fun _ _ _ _ _ => pts_nil) (fun _ _ _ _ _ => pe_callTy call_str_int (by rfl) m_str (by decide +kernel) (pa_cons (pv 1) pa_nil))))), ?_⟩
    refine ⟨⟨_, rfl⟩, _, rfl, a, rfl, ⟨_, SqT.of ea⟩, fun D nD => ?_⟩
    refine lc_tup (K := K) (a := a) (xs := intsV ns) (fun m G => Same H G ∧ G D = some (.lst (((ns.take m).map fun (n : Nat) => Str.ofString (toString ((n : Nat) : Int))).map V.str))) ⟨same_upd nD, upd_same⟩ ?_ ?_ ?_
    · rintro m G _ ⟨sm, _⟩
      exact SqT.of (sm _ _ ea)
    · rintro m v G hv ⟨sm, hD⟩
      unfold intsV at hv
      rw [List.getElem?_map] at hv
      obtain ⟨n, hn, rfl⟩ := Option.map_eq_some_iff.mp hv
      refine ⟨rfl, _, rfl, _, rfl, log_small (le n (List.mem_of_getElem? hn)), _, hD, by rw [List.length_map, List.length_map, List.length_take]; exact small1000 (by omega), fun b o hb => ?_, ?_⟩
      · rw [upd_ne (ne_of_none hb nD)]
        exact sm b o hb
      · rw [upd_same, List.take_add_one, hn, List.map_append, List.map_append]; rfl
    · rintro G ⟨sm, hD⟩
      rw [show (intsV ns).length = ns.length from List.length_map _, List.take_length] at hD
      have toks : ∀ p ∈ ns.map (fun (n : Nat) => Str.ofString (toString ((n : Nat) : Int))), TX.Tok p 30 := fun p hp => by
        obtain ⟨n, hn, rfl⟩ := List.mem_map.mp hp
        exact TX.num_tok (by decide) (le n hn)
      obtain ⟨tk, tl⟩ := TX.join_tok (y := " ") eq_blank (by decide) toks
      rw [List.length_map] at tk
      have tl2 : TL.tl (Txt.join " " (ns.map fun (n : Nat) => Str.ofString (toString ((n : Nat) : Int)))) = TX.rowL ns := by
        rw [tl, List.map_map]
        unfold TX.rowL
        congr 1
        exact List.map_congr_left fun n _ => TL.tl_num n
      refine ⟨" ", D, _, rfl, rfl, .inl (SqL.of hD), ?_, want _ G sm tl2 (tk.le (by omega))⟩
      have : ∀ l : List Str, (∀ p ∈ l, TX.Tok p 30) → (l.map (·.length)).sum ≤ l.length * 30 := fun l => by
        induction l with
        | nil => intro _; exact Nat.zero_le _
        | cons p l ih =>
          intro h
          have h1 := (h p List.mem_cons_self).1
          have h2 := ih fun q hq => h q (List.mem_cons_of_mem _ hq)
          rw [List.map_cons, List.sum_cons, List.length_cons]
          omega
      have h1 := this _ toks
      rw [List.length_map] at h1
      rw [List.length_map, show (" " : Str).length = 1 by decide +kernel]
      omega
theorem sum_tok {k : Nat} : ∀ l : List Str, (∀ p ∈ l, TX.Tok p k) → (l.map (·.length)).sum ≤ l.length * k
  | [], _ => Nat.zero_le _
  | p :: l, h => by
    have h1 := (h p List.mem_cons_self).1
    have h2 := sum_tok l fun q hq => h q (List.mem_cons_of_mem _ hq)
    rw [List.map_cons, List.sum_cons, List.length_cons, Nat.succ_mul]
    omega
/-- a run as it is written -/
def runS (r : Nat × Nat × Nat) : Str := Str.ofString (toString ((r.1 : Nat) : Int)) ++ ">" ++ Str.ofString (toString ((r.2.1 : Nat) : Int)) ++ "*" ++ Str.ofString (toString ((r.2.2 : Nat) : Int))
theorem runS_tl (r : Nat × Nat × Nat) : TL.tl (runS r) = TX.runL r := by
  unfold runS TX.runL
  rw [TL.tl_append, TL.tl_append, TL.tl_append, TL.tl_append, TL.tl_num, TL.tl_num, TL.tl_num, eq_arrow, eq_star, List.append_assoc, List.append_assoc, List.append_assoc]
  rfl
theorem one_tok {z : Str} {c : Nat} (h : TL.tl z = [c]) (hc : c < 1114112) : TX.Tok z 1 := ⟨by rw [TL.len_tl, h]; exact Nat.le_refl _, fun d hd => by rw [h] at hd; rw [List.mem_singleton.mp hd]; exact hc⟩
theorem runS_tok {r : Nat × Nat × Nat} (h : TX.GoodRun r) : TX.Tok (runS r) 36 := by
  obtain ⟨h1, h2, _, h4⟩ := h
  exact (TX.cat_tok (TX.cat_tok (TX.cat_tok (TX.cat_tok (TX.num_tok (k := 2) (by decide) (by omega)) (one_tok eq_arrow (by decide))) (TX.num_tok (k := 2) (by decide) (by omega))) (one_tok eq_star (by decide))) (TX.num_tok (k := 30) (by decide) h4)).le (by decide)
def spPtx : Sp := fun vs H Q _ => ∃ (a : Addr) (ts : List Addr) (rs : List (Nat × Nat × Nat)), vs = [.ref a] ∧ H a = some (.tup (ts.map V.ref)) ∧ RunsAt H ts rs ∧ rs.length ≤ 400 ∧ (∀ r ∈ rs, TX.GoodRun r) ∧ ∀ (z : Str) H', Same H H' → TL.tl z = TX.planL rs → TX.Tok z (37 * rs.length + 1) → Q (.str z) H'
theorem ok_ptx {f : Addr} {fd : FuncData} {k : Nat} (F : Fun K "_law_plan_text" "_law_plan_text" sPtx f fd) (m_str : mg "str" = none) : FnOk P w K mg base CX0 (k + 1) f fd ["_law_plan_here"] spPtx := by
  refine F.ok scPtx (fun vs H Q E h => ?_) (fun cdv A outer s H vs Q E hr h => ?_)
  · obtain ⟨a, ts, rs, rfl, _⟩ := h
    rfl
  · obtain ⟨a, ts, rs, rfl, ea, hR, l4, good, want⟩ := h
    refine ⟨_, pss_cons (ps_setLc (i := 4) (own := [("_law_i", 1), ("_law_j", 2), ("_law_k", 3)]) (g := gTup K 3 (gCons (gName 1) (gCons (gName 2) (gCons (gName 3) gNil)))) (tt := tYes) rfl scPtx.nd rfl rfl (sw_true rfl rfl rfl (by decide +kernel)) (pi_tup (pv 0)) (blkOk_by (N := nPtx) (sc := defScope sPtx) (by decide +kernel)) (fun _ _ _ _ _ => pg_tup rfl (pgs_cons (pg_name (i := 1) scPtx.nd rfl (.inl rfl) (.inr rfl)) (pgs_cons (pg_name (i := 2) scPtx.nd rfl (.inl rfl) (.inr rfl)) (pgs_cons (pg_name (i := 3) scPtx.nd rfl (.inl rfl) (.inr rfl)) pgs_nil)))) (fun _ _ _ _ _ => pts_nil) (fun _ _ _ _ _ => pe_op op_add_str (pe_op op_add_str (pe_op op_add_str (pe_op op_add_str (pe_callTy call_str_int (by rfl) m_str (by decide +kernel) (pa_cons (pv 1) pa_nil)) pe_str) (pe_callTy call_str_int (by rfl) m_str (by decide +kernel) (pa_cons (pv 2) pa_nil))) pe_str) (pe_callTy call_str_int (by rfl) m_str (by decide +kernel) (pa_cons (pv 3) pa_nil))))
      (pss_one (ps_ret (pe_ifExp (pt_cmpR (op_neD hr.units) (pv 4) (pe_lst pa_nil) (nomark _)) (pe_join pe_str (pv 4)) pe_str))), ?_⟩
    refine ⟨_, rfl, a, rfl, ⟨_, SqT.of ea⟩, fun D nD => ?_⟩
    refine lc_tup (K := K) (a := a) (xs := ts.map V.ref) (fun m G => Same H G ∧ G D = some (.lst (((rs.take m).map runS).map V.str))) ⟨same_upd nD, upd_same⟩ ?_ ?_ ?_
    · rintro m G _ ⟨sm, _⟩
      exact SqT.of (sm _ _ ea)
    · rintro m v G hv ⟨sm, hD⟩
      rw [List.getElem?_map] at hv
      obtain ⟨t, ht, rfl⟩ := Option.map_eq_some_iff.mp hv
      have hm : m < ts.length := (List.getElem?_eq_some_iff.mp ht).1
      have hr : rs[m]? = some (rs[m]'(by rw [← hR.1]; exact hm)) := List.getElem?_eq_getElem _
      generalize rs[m]'(by rw [← hR.1]; exact hm) = r at hr
      have et := sm _ _ (hR.2 m t r ht hr)
      have gr := good r (List.mem_of_getElem? hr)
      obtain ⟨h1, h2, _, h4⟩ := id gr
      have t1 := TX.num_tok (n := r.1) (k := 2) (by decide) (by omega)
      have t2 := TX.num_tok (n := r.2.1) (k := 2) (by decide) (by omega)
      have t3 := TX.num_tok (n := r.2.2) (k := 30) (by decide) h4
      have c1 := TX.cat_tok t1 (one_tok eq_arrow (by decide))
      have c2 := TX.cat_tok c1 t2
      have c3 := TX.cat_tok c2 (one_tok eq_star (by decide))
      have c4 := TX.cat_tok c3 t3
      have l1 := t1.1; have l2 := t2.1; have l3 := t3.1; have m1 := c1.1; have m2 := c2.1; have m3 := c3.1
      have la : (">" : Str).length = 1 := by decide +kernel
      have ls : ("*" : Str).length = 1 := by decide +kernel
      refine ⟨t, _, rfl, SqT.of et, rfl, _, _, rfl, _, _, rfl, _, _, rfl, rfl, rfl, ?_⟩
      refine ⟨_, rfl, _, rfl, log_small (by omega), _, _, rfl, rfl, by rw [sizeLine_eq, la]; omega, _, rfl, _, rfl, log_small (by omega), _, _, rfl, rfl, by rw [sizeLine_eq]; omega, _, _, rfl, rfl, by rw [sizeLine_eq, ls]; omega, _, rfl, _, rfl, log_small h4, _, _, rfl, rfl, by rw [sizeLine_eq]; omega, ?_⟩
      refine ⟨_, hD, by rw [List.length_map, List.length_map, List.length_take]; exact small1000 (by omega), fun b o hb => ?_, ?_⟩
      · rw [upd_ne (ne_of_none hb nD)]
        exact sm b o hb
      · rw [upd_same, List.take_add_one, hr, List.map_append, List.map_append]; rfl
    · rintro G ⟨sm, hD⟩
      rw [List.length_map, hR.1, List.take_length] at hD
      refine ⟨_, rfl, by show 0 ≤ sizeLine; decide, fun l nl => ?_⟩
      have s2 : Same G (upd G l (.lst [])) := same_upd nl
      have e2 : upd G l (.lst []) l = some (.lst ([].map V.str)) := upd_same
      generalize upd G l (HO.lst []) = G2 at s2 e2 ⊢
      have hD2 := s2 _ _ hD
      have toks : ∀ p ∈ rs.map runS, TX.Tok p 36 := fun p hp => by
        obtain ⟨r, hr, rfl⟩ := List.mem_map.mp hp
        exact runS_tok (good r hr)
      refine ⟨.list ((rs.map runS).map PyData.str), .list (([] : List Str).map PyData.str), .lst (SqL.of hD2) (dpStrsG _), .lst (SqL.of e2) (dpStrsG _), shapedL_strs _ (fun p hp => canStr (toks p hp).2), shapedL_strs _ (fun p hp => nomatch hp), _, rfl, ?_⟩
      rw [eqvL_strs]
      by_cases hrs : rs = []
      · subst hrs
        rw [show (!decide (List.map runS [] = [])) = false by decide]
        exact iteF (want _ G2 (sm.trans s2) (by rw [eq_dash]; rfl) ((one_tok eq_dash (by decide)).le (by omega)))
      · rw [decide_eq_false (fun z => hrs (List.map_eq_nil_iff.mp z))]
        obtain ⟨tk, tl⟩ := TX.join_tok (y := " ") eq_blank (by decide) toks
        rw [List.length_map] at tk
        have tl2 : TL.tl (Txt.join " " (rs.map runS)) = TX.planL rs := by
          rw [tl, List.map_map]
          unfold TX.planL
          rw [if_neg hrs]
          congr 1
          exact List.map_congr_left fun r _ => runS_tl r
        have h1 := sum_tok _ toks
        rw [List.length_map] at h1
        refine iteT ⟨⟨_, rfl⟩, _, rfl, " ", D, rs.map runS, rfl, rfl, .inl (SqL.of hD2), ?_, want _ G2 (sm.trans s2) tl2 (tk.le (by omega))⟩
        rw [List.length_map, show (" " : Str).length = 1 by decide +kernel]
        omega
/-- the number that figures write, -1 where they write none -/
def noV (l : List Nat) : Int := match TX.numW l with | some n => (n : Nat) | none => -1
def spNo : Sp := fun vs H Q _ => ∃ z : Str, vs = [.str z] ∧ z.length ≤ 100000 ∧ ∀ H', Same H H' → Q (.int (noV (TL.tl z))) H'
theorem ok_no {f : Addr} {fd : FuncData} {k : Nat} (F : Fun K "_law_number_of" "_law_number_of" sNo f fd) (m_len : mg "len" = none) (m_all : mg "all" = none) (m_int : mg "int" = none) : FnOk P w K mg base CX0 (k + 1) f fd ["_law_text"] spNo := by
  refine F.ok scNo (fun vs H Q E h => ?_) (fun cdv A outer s H vs Q E hr h => ?_)
  · obtain ⟨z, rfl, _⟩ := h
    rfl
  · obtain ⟨z, rfl, lz, want⟩ := h
    refine ⟨_, pss_cons (ps_if (PW.pt (pw_or (pt_cmpR op_eq (pv 0) pe_str (nomark _)) (pw_or (pt_cmpR op_gt (pe_callB call_len_str (by rfl) m_len PySem.boot_len (pa_cons (pv 0) pa_nil)) pe_int (nomark _)) (pw_or1 (pt_not (pt_val (pe_callB (cr_all rfl) (by rfl) m_all (by decide +kernel) (pa_cons (pe_lc (own := [("_law_sign", 1)]) (g := gName 1) (tt := tYes) rfl scNo.nd (pi_str (pv 0)) (blkOk_by (N := nNo) (sc := defScope sNo) (by decide +kernel)) (fun _ _ _ _ _ => pg_name (i := 1) scNo.nd rfl (Or.inl rfl)) (fun _ _ _ _ _ => pts_nil) (fun _ _ _ _ _ => pe_cmpR op_inS (pv 1) pe_str (by rfl))) pa_nil)))))))) (pss_one (ps_ret (pe_un un_neg pe_int))) pss_nil)
      (pss_one (ps_ret (pe_ifExp (PW.pt (pw_and (pt_cmpR op_eq (pe_ix ix_str (pv 0) pe_int (fun _ _ => rfl)) pe_str (nomark _)) (pw_and1 (pt_cmpR op_ne (pv 0) pe_str (nomark _))))) (pe_un un_neg pe_int) (pe_callTy call_int_str (by rfl) m_int (by decide +kernel) (pa_cons (pv 0) pa_nil))))), ?_⟩
    have hl := TL.len_tl z
    have bad : ∀ G, Same H G → TX.isNum (TL.tl z) = false → Q (.int (-1)) G := fun G s e => by
      have := want G s
      unfold noV TX.numW at this
      rw [e] at this
      exact this
    have notN : ¬ ((1 ≤ (TL.tl z).length ∧ (TL.tl z).length ≤ 30) ∧ NumText.AllDigits (TL.tl z) ∧ (TL.tl z = [48] ∨ ¬ (TL.tl z).head? = some 48)) → TX.isNum (TL.tl z) = false := fun h => by
      cases e : TX.isNum (TL.tl z) with
      | false => rfl
      | true => exact absurd (TX.isNum_iff.mp e) h
    have eE : ∀ y : Str, y = "" ↔ TL.tl y = [] := fun y => ⟨fun e => by rw [e]; decide +kernel, fun e => TL.ext_tl (e.trans (by decide +kernel))⟩
    refine ⟨_, rfl, rfl, _, rfl, ite2 (fun h => iteT ⟨1, rfl, bad H (.refl H) (notN fun y => ?_)⟩) (fun h0 => ?_)⟩
    · have := (eE z).mp (V.str.inj (of_decide_eq_true h))
      rw [this] at y
      exact absurd y.1.1 (by decide)
    have h0 : TL.tl z ≠ [] := fun e => h0 (decide_eq_true (by rw [(eE z).mpr e]))
    refine ⟨_, rfl, z, rfl, by rw [sizeLine_eq]; omega, _, _, rfl, rfl, _, rfl, ite2 (fun h => iteT ⟨1, rfl, bad H (.refl H) (notN fun y => by have := of_decide_eq_true h; omega)⟩) (fun h1 => ?_)⟩
    have h1 : z.length ≤ 30 := Nat.le_of_not_lt fun y => h1 (decide_eq_true (by omega))
    have zl : z.cps.toList.length ≤ 30 := by rw [Array.length_toList]; exact h1
    refine ⟨_, rfl, z, rfl, fun D nD => ?_⟩
    refine lc_it (walk_str (z := z)) (fun m G => Same H G ∧ G D = some (.lst (((z.cps.toList.take m).map fun c => decide (c ∈ figS.cps.toList)).map V.bl))) ⟨same_upd nD, upd_same⟩ ?_ ?_ ?_
    · intro m G _ _
      trivial
    · rintro m u G G' hm ⟨sm, hD⟩ ⟨rfl, c, hc, rfl⟩
      refine ⟨rfl, _, rfl, c, figS, rfl, rfl, _, hD, by rw [List.length_map, List.length_map, List.length_take]; exact small1000 (by omega), fun b o e => by rw [upd_ne (ne_of_none e nD)]; exact sm b o e, ?_⟩
      rw [upd_same, List.take_add_one, Array.getElem?_toList, hc, List.map_append, List.map_append]
      rfl
    rintro G ⟨sm, hD⟩
    rw [show z.cps.size = z.cps.toList.length from Array.length_toList.symm, List.take_length] at hD
    refine ⟨D, _, rfl, SqL.of hD, _, rfl, ?_⟩
    have sg : ((z.cps.toList.map fun c => decide (c ∈ figS.cps.toList)).all id) = (TL.tl z).all fun c => decide (48 ≤ c ∧ c ≤ 57) := sg_fig
    rw [sg]
    cases hd : (TL.tl z).all fun c => decide (48 ≤ c ∧ c ≤ 57) with
    | false => exact iteT ⟨1, rfl, bad G sm (notN fun y => by
        have : (TL.tl z).all (fun c => decide (48 ≤ c ∧ c ≤ 57)) = true := List.all_eq_true.mpr fun c hc => decide_eq_true (y.2.1 c hc)
        rw [hd] at this
        cases this)⟩
    | true =>
      have dg : NumText.AllDigits (TL.tl z) := fun c hc => of_decide_eq_true (List.all_eq_true.mp hd c hc)
      obtain ⟨c, r, ec⟩ : ∃ c r, TL.tl z = c :: r := by
        cases e : TL.tl z with
        | nil => exact absurd e h0
        | cons c r => exact ⟨c, r, rfl⟩
      have len1 : 1 ≤ (TL.tl z).length := List.length_pos_iff.mpr h0
      have num : (TL.tl z = [48] ∨ ¬ (TL.tl z).head? = some 48) → ∃ n : Nat, PySem.intText? z = some (n : Int) ∧ Q (.int (n : Nat)) G := fun h => by
        have e := TX.isNum_iff.mpr ⟨⟨len1, by omega⟩, dg, h⟩
        have w := want G sm
        unfold noV TX.numW at w
        rw [e, if_pos rfl] at w
        exact ⟨_, (int_of e).1, w⟩
      refine iteF ⟨_, rfl, z, 0, c, rfl, rfl, by rw [sizeLine_eq]; omega, atI_nat (j := 0) (by show (TL.tl z)[0]? = _; rw [ec]; rfl), rfl, _, rfl, ite2 (fun h2 => ?_) (fun h2 => ?_)⟩
      · have h2 : c = 48 := by
          have := eq_zero.mp (V.str.inj (of_decide_eq_true h2))
          have : [c] = [48] := this
          exact (List.cons.inj this).1
        refine ⟨_, rfl, rfl, _, rfl, ?_⟩
        by_cases h3 : z = "0"
        · rw [decide_eq_true (show V.str z = V.str "0" by rw [h3])]
          obtain ⟨n, e, q⟩ := num (.inl (eq_zero.mp h3))
          exact iteF ⟨_, rfl, z, _, rfl, e, by omega, q⟩
        · rw [decide_eq_false (fun y => h3 (V.str.inj y))]
          refine iteT ⟨1, rfl, ?_⟩
          exact bad G sm (notN fun y => by
            rcases y.2.2 with y | y
            · exact h3 (eq_zero.mpr y)
            · exact y (by rw [ec, h2]; rfl))
      · have h2 : c ≠ 48 := fun e => h2 (decide_eq_true (by rw [e]; exact congrArg V.str (eq_zero.mpr rfl)))
        obtain ⟨n, e, q⟩ := num (.inr (by rw [ec]; intro y; exact h2 (Option.some.inj y)))
        exact ⟨_, rfl, z, _, rfl, e, by omega, q⟩
end
end K61

/-! MXd: runs or none, in a list -/
namespace MG
open PySem PySem.Spec PyProof.Rows L2
abbrev Run3 := Nat × Nat × Nat
def OptAt (H : Hp) (v : V) (o : Option Run3) : Prop := (o = none ∧ v = .non) ∨ ∃ (r : Run3) (t : Addr), o = some r ∧ v = .ref t ∧ H t = some (.tup (runV r))
inductive OptsAt (H : Hp) : List V → List (Option Run3) → Prop
  | nil : OptsAt H [] []
  | cons {v : V} {o : Option Run3} {vs : List V} {os : List (Option Run3)} : OptAt H v o → OptsAt H vs os → OptsAt H (v :: vs) (o :: os)
theorem OptsAt.mono {H H' : Hp} (s : ∀ a xs, H a = some (.tup xs) → H' a = some (.tup xs)) : ∀ {vs : List V} {os : List (Option Run3)}, OptsAt H vs os → OptsAt H' vs os
  | _, _, .nil => .nil
  | _, _, .cons a b => .cons (by
      rcases a with a | ⟨r, t, e1, e2, e3⟩
      · exact .inl a
      · exact .inr ⟨r, t, e1, e2, s _ _ e3⟩) (b.mono s)
theorem OptsAt.snoc {H : Hp} {v : V} {o : Option Run3} (h : OptAt H v o) : ∀ {vs : List V} {os : List (Option Run3)}, OptsAt H vs os → OptsAt H (vs ++ [v]) (os ++ [o])
  | _, _, .nil => .cons h .nil
  | _, _, .cons a b => .cons a (b.snoc h)
theorem OptsAt.len {H : Hp} : ∀ {vs : List V} {os : List (Option Run3)}, OptsAt H vs os → vs.length = os.length
  | _, _, .nil => rfl
  | _, _, .cons _ b => by rw [List.length_cons, List.length_cons, b.len]
theorem RunsAt.cons {H : Hp} {t : Addr} {r : Run3} {ts : List Addr} {rs : List Run3} (e : H t = some (.tup (runV r))) (h : RunsAt H ts rs) : RunsAt H (t :: ts) (r :: rs) := by
  refine ⟨by rw [List.length_cons, List.length_cons, h.1], fun i t' r' a b => ?_⟩
  match i, a, b with
  | 0, a, b => cases a; cases b; exact e
  | i + 1, a, b => exact h.2 i t' r' a b
theorem OptsAt.all {H : Hp} : ∀ {vs : List V} {rs : List Run3}, OptsAt H vs (rs.map some) → ∃ ts : List Addr, vs = ts.map V.ref ∧ RunsAt H ts rs
  | _, [], .nil => ⟨[], rfl, RunsAt.nil⟩
  | _, r :: rs, .cons a b => by
    obtain ⟨ts, e, h⟩ := b.all
    rcases a with ⟨a, _⟩ | ⟨r', t, e1, e2, e3⟩
    · cases a
    · cases e1
      exact ⟨t :: ts, by rw [e2, e, List.map_cons], .cons e3 h⟩
def oDt : Option Run3 → PyData
  | none => .none
  | some r => .tuple [.int (r.1 : Nat), .int (r.2.1 : Nat), .int (r.2.2 : Nat)]
theorem OptsAt.dp {K : PySem.W.Frag} {H : Hp} : ∀ {vs : List V} {os : List (Option Run3)}, OptsAt H vs os → DpAll K H vs (os.map oDt)
  | _, _, .nil => .nil
  | _, _, .cons a b => by
    refine .cons ?_ b.dp
    rcases a with ⟨rfl, rfl⟩ | ⟨r, t, rfl, rfl, e⟩
    · exact .non
    · exact .tup (SqT.of e) (.cons (.int _) (.cons (.int _) (.cons (.int _) .nil)))
theorem opts_any : ∀ os : List (Option Run3), ((os.map oDt).any fun z => PyData.eqv z .none) = decide (none ∈ os)
  | [] => rfl
  | none :: os => by rw [List.map_cons, List.any_cons, opts_any os]; simp [oDt, PyData.eqv]
  | some r :: os => by
    rw [List.map_cons, List.any_cons, opts_any os]
    have : PyData.eqv (oDt (some r)) .none = false := rfl
    rw [this, Bool.false_or]
    exact decide_eq_decide.mpr ⟨fun h => List.mem_cons_of_mem _ h, fun h => by
      rcases List.mem_cons.mp h with h | h
      · cases h
      · exact h⟩
theorem opts_shaped (os : List (Option Run3)) : SeqAt.shaped (.list (os.map oDt)) = true := by
  have h1 : ∀ os : List (Option Run3), PyData.canLayAll0 (os.map oDt) = true := fun os => by
    induction os with
    | nil => rfl
    | cons o os ih => rw [List.map_cons, PyData.canLayAll0, ih]; cases o <;> rfl
  have h2 : ∀ os : List (Option Run3), PyData.depthAll (os.map oDt) ≤ 1 := fun os => by
    induction os with
    | nil => exact Nat.zero_le _
    | cons o os ih =>
      rw [List.map_cons, PyData.depthAll]
      refine Nat.max_le.mpr ⟨?_, ih⟩
      cases o with
      | none => exact Nat.zero_le _
      | some r => exact Nat.le_refl _
  unfold SeqAt.shaped
  rw [PyData.canLay0, h1, PyData.depth, Bool.true_and]
  have := h2 os
  exact decide_eq_true (by omega)
end MG
namespace TX
open PySem TL
theorem join_len1 {s : Nat} : ∀ ps : List (List Nat), ps ≠ [] → (joinL [s] ps).length + 1 = (ps.map fun p => p.length + 1).sum
  | [], h => absurd rfl h
  | [p], _ => rfl
  | p :: q :: r, _ => by
    have ih := join_len1 (s := s) (q :: r) (by simp)
    have e : (joinL [s] (p :: q :: r)).length = p.length + (1 + (joinL [s] (q :: r)).length) := by
      show (p ++ ([s] ++ joinL [s] (q :: r))).length = _
      rw [List.length_append, List.length_append]; rfl
    rw [e, List.map_cons, List.sum_cons, ← ih]
    omega
/-- words, so many signs and gaps at most -/
def Wds (ys : List Str) (n : Nat) : Prop := (ys.map fun y => y.length + 1).sum ≤ n ∧ ∀ y ∈ ys, ∀ c ∈ tl y, c < 1114112
theorem Wds.app {a b : List Str} {n m : Nat} (h : Wds a n) (k : Wds b m) : Wds (a ++ b) (n + m) := by
  refine ⟨?_, fun y hy => (List.mem_append.mp hy).elim (h.2 y) (k.2 y)⟩
  rw [List.map_append, List.sum_append]
  have := h.1; have := k.1
  omega
theorem sum_sub {a b : List Nat} (h : a.Sublist b) : a.sum ≤ b.sum := by
  induction h with
  | slnil => exact Nat.le_refl _
  | cons x _ ih => rw [List.sum_cons]; omega
  | cons_cons x _ ih => rw [List.sum_cons, List.sum_cons]; omega
theorem Wds.sub {a b : List Str} {n : Nat} (h : Wds b n) (s : a.Sublist b) : Wds a n := ⟨Nat.le_trans (sum_sub (s.map _)) h.1, fun y hy => h.2 y (s.subset hy)⟩
theorem Wds.one {z : Str} {n : Nat} (h : Tok z n) : Wds [z] (n + 1) := ⟨by rw [List.map_cons, List.map_nil, List.sum_singleton]; have := h.1; omega, fun y hy => by rw [List.mem_singleton.mp hy]; exact h.2⟩
theorem split_wds {z y : Str} {n : Nat} (ey : tl y = [32]) (h : Tok z n) : Wds (Txt.split z y) (n + 1) := by
  have e := split_tl z ey (by decide)
  refine ⟨?_, fun x hx c hc => ?_⟩
  · have := join_len1 (s := 32) (sp 32 [] (tl z)) (fun q => by have := sp_ne 32 (tl z) []; rw [q] at this; exact absurd this (by decide))
    rw [glue, List.nil_append, ← e, List.map_map] at this
    have k : ((Txt.split z y).map fun y => y.length + 1) = (Txt.split z y).map ((fun p => p.length + 1) ∘ tl) := List.map_congr_left fun x _ => by show _ = (tl x).length + 1; rw [len_tl]
    rw [k, ← this, ← len_tl]
    have := h.1
    omega
  · rcases sp_sub 32 (tl z) [] (tl x) (by rw [← e]; exact List.mem_map.mpr ⟨x, hx, rfl⟩) c hc with q | q
    · exact absurd q List.not_mem_nil
    · exact h.2 c q
theorem join_wds {ys : List Str} {y : Str} {n : Nat} (ey : tl y = [32]) (h : Wds ys n) : Tok (Txt.join y ys) n ∧ (ys.map (·.length)).sum + ys.length * y.length ≤ n := by
  have l1 : y.length = 1 := by rw [len_tl, ey]; rfl
  have e : tl (Txt.join y ys) = joinL [32] (ys.map tl) := by rw [join_eq, tl_join, ey]
  have sums : ∀ l : List Str, (l.map (·.length)).sum + l.length = (l.map fun y => y.length + 1).sum := fun l => by
    induction l with
    | nil => rfl
    | cons a l ih => rw [List.map_cons, List.sum_cons, List.map_cons, List.sum_cons, List.length_cons, ← ih]; omega
  refine ⟨⟨?_, fun c hc => ?_⟩, by rw [l1, Nat.mul_one, sums]; exact h.1⟩
  · rw [len_tl, e]
    refine Nat.le_trans (join_len _) (Nat.le_trans (Nat.le_of_eq ?_) h.1)
    rw [List.map_map]
    have k : ∀ x : Str, ((fun p : List Nat => p.length + [32].length) ∘ tl) x = x.length + 1 := fun x => by rw [len_tl]; rfl
    rw [List.map_congr_left fun x _ => k x]
  · rw [e] at hc
    rcases join_mem _ hc with q | ⟨p, hp, q⟩
    · rw [List.mem_singleton.mp q]; decide
    · obtain ⟨x, hx, rfl⟩ := List.mem_map.mp hp
      exact h.2 x hx c q
theorem cut_tok {z : Str} {n : Nat} (h : Tok z n) (lo hi : Option Int) : Tok (L2.cutS z lo hi) n := by
  refine ⟨Nat.le_trans (L2.cutS_length z lo hi) h.1, fun c hc => h.2 c ?_⟩
  have hc : c ∈ (z.cps.toList.drop (HT.sIx z.length 0 lo)).take (HT.sIx z.length z.length hi - HT.sIx z.length 0 lo) := hc
  exact List.mem_of_mem_drop (List.mem_of_mem_take hc)
theorem cut_strs (ys : List Str) (lo hi : Option Int) : ∃ zs : List Str, L2.cutV (ys.map L2.V.str) lo hi = zs.map L2.V.str ∧ zs.Sublist ys := by
  refine ⟨(ys.drop (HT.sIx ys.length 0 lo)).take (HT.sIx ys.length ys.length hi - HT.sIx ys.length 0 lo), ?_, (List.take_sublist _ _).trans (List.drop_sublist _ _)⟩
  unfold L2.cutV
  rw [List.length_map, List.map_take, List.map_drop]
end TX

/-! MJe: data whose ints are small, its repr bounded; the heap without what is changed -/
namespace MG
open PySem PySem.Spec PyProof.Rows L2
mutual
/-- every int in it is small -/
def sm : PyData → Bool
  | .int i => decide (i ≤ 1000)
  | .tuple ds => smA ds
  | .list ds => smA ds
  | _ => true
def smA : List PyData → Bool
  | [] => true
  | d :: ds => sm d && smA ds
end
/-- v is data in H: at most n deep, its repr at most c signs, its ints small -/
def Db (H : Hp) (n c : Nat) (v : V) : Prop := ∃ d, Dd H v d ∧ d.showable = true ∧ d.depth ≤ n ∧ d.shown.length ≤ c ∧ sm d = true
/-- the heap without what is changed -/
def rmT (S : List Addr) (H : Hp) : Hp := fun a => if a ∈ S then none else H a
/-- all but what is in S stays -/
def SO (S : List Addr) (H H' : Hp) : Prop := ∀ a o, a ∉ S → H a = some o → H' a = some o
end MG

/-! MKa: the order of 2 by an odd number: what the program's parting into primes finds. Pure mathematics. -/
namespace Rn
/-- a prime -/
def Pr (p : Nat) : Prop := 2 ≤ p ∧ ∀ d, d ∣ p → d = 1 ∨ d = p
/-- 2 to so many, less 1 -/
def Mo (m : Nat) : Nat := 2 ^ m - 1
/-- 1 + x + .. -/
def geo (x : Nat) : Nat → Nat
  | 0 => 0
  | n + 1 => geo x n + x ^ n
/-- how many ways to take k of n -/
def ch : Nat → Nat → Nat
  | _, 0 => 1
  | 0, _ + 1 => 0
  | n + 1, k + 1 => ch n k + ch n (k + 1)
/-- the first m of a row together -/
def row (n : Nat) : Nat → Nat
  | 0 => 0
  | m + 1 => row n m + ch n m
/-- the number's own way: for each prime, parted by it, times one less -/
def tot (many : Nat) : List Nat → Nat
  | [] => many
  | p :: ps => tot (many / p * (p - 1)) ps
/-- the least number of doublings that give 1 by rests -/
def Ord (w t : Nat) : Prop := 0 < t ∧ w ∣ Mo t ∧ ∀ d, 0 < d → w ∣ Mo d → t ≤ d
/-- `ps` are just the primes of n -/
def Prs (n : Nat) (ps : List Nat) : Prop := ps.Nodup ∧ ∀ p, p ∈ ps ↔ Pr p ∧ p ∣ n
end Rn

/-! MKb: the program's loops in the ring: primes taken out, doublings to one, the ring of two. Pure mathematics. -/
namespace Rn
/-- where the search for primes stands -/
structure PI (n0 : Nat) (ps : List Nat) (q n : Nat) : Prop where
  pos : 0 < n
  dv : n ∣ n0
  q2 : 2 ≤ q
  odd : q = 2 ∨ q % 2 = 1
  no : ∀ d, 2 ≤ d → d < q → ¬ d ∣ n
  all : ∀ p, Pr p → (p ∣ n0 ↔ p ∈ ps ∨ p ∣ n)
  pr : ∀ p ∈ ps, Pr p ∧ p < q
  nd : ps.Nodup
/-- taking one prime out: where it stands within -/
structure PO (q n m : Nat) : Prop where
  m0 : 0 < m
  ex : ∃ f, n = q ^ f * m
/-- how far the primes of a number are taken out of it -/
structure DI (w t0 : Nat) (done : List Nat) (t : Nat) : Prop where
  pos : 0 < t
  mo : w ∣ Mo t
  dv : t ∣ t0
  no : ∀ q ∈ done, ¬ (q ∣ t ∧ w ∣ Mo (t / q))
/-- the ring of two, p and q: the least number of doublings by rests behind which p is there again -/
def Again (p s k : Nat) : Prop := p * 2 ^ k % s = p % s
/-- what a ring is told by: none, of an even number of shares; else its order -/
def RingOf (p q : Nat) : Option Nat → Prop
  | none => ∀ k, 0 < k → ¬ Again p (p + q) k
  | some t => 0 < t ∧ Again p (p + q) t ∧ ∀ k, 0 < k → Again p (p + q) k → t ≤ k
end Rn

/-! MKc: a while by a measure, its test read as it stands -/
namespace MG
open PySem PySem.Spec PyProof.Rows L2
end MG
namespace MG
open PySem PySem.Spec PyProof.Rows L2
theorem units65 {k : Nat} {A : Around} (r : Room k A) : A.units + 65 < cLine := by have := r.un; omega
end MG

namespace K61
open PySem PySem.Spec PyProof.Rows L2 MG
section
variable {P : Program} {w : World} {K : PySem.W.Frag} {mg : Str → Option Value} {base : Heap}
theorem noV_some {l : List Nat} {n : Nat} (h : TX.numW l = some n) : noV l = (n : Int) := by unfold noV; rw [h]
theorem noV_none {l : List Nat} (h : TX.numW l = none) : noV l = -1 := by unfold noV; rw [h]
theorem noV_neg {l : List Nat} (h : noV l < 0) : TX.numW l = none := by
  cases e : TX.numW l with
  | none => rfl
  | some n => rw [noV_some e] at h; omega
theorem nums_all : ∀ {ls : List (List Nat)}, (∀ l ∈ ls, 0 ≤ noV l) → ∃ ns : List Nat, ls.map TX.numW = ns.map some ∧ ls.map noV = ns.map fun (n : Nat) => (n : Int)
  | [], _ => ⟨[], rfl, rfl⟩
  | l :: ls, h => by
    obtain ⟨ns, e1, e2⟩ := nums_all fun x hx => h x (List.mem_cons_of_mem _ hx)
    cases e : TX.numW l with
    | none => have := h l List.mem_cons_self; rw [noV_none e] at this; omega
    | some n => exact ⟨n :: ns, by rw [List.map_cons, List.map_cons, e, e1], by rw [List.map_cons, List.map_cons, noV_some e, e2]⟩
theorem castN_sum : ∀ ns : List Nat, (ns.map fun (n : Nat) => (n : Int)).sum = ((ns.sum : Nat) : Int)
  | [] => rfl
  | a :: l => by rw [List.map_cons, List.sum_cons, castN_sum l, List.sum_cons, Int.natCast_add]
def spRo : Sp := fun vs H Q _ => ∃ z : Str, vs = [.str z] ∧ z.length ≤ 90000 ∧ (∀ ns, TX.rowT (TL.tl z) = some ns → ∀ p H', Same H H' → H' p = some (.tup (intsV ns)) → Q (.ref p) H') ∧ (TX.rowT (TL.tl z) = none → ∀ H', Same H H' → Q .non H')
theorem ok_ro {f fNo : Addr} {fd fdNo : FuncData} {k : Nat} (F : Fun K "_law_row_of" "_law_row_of" sRo f fd)
    (FNo : Fun K "_law_number_of" "_law_number_of" sNo fNo fdNo) (bNo : Binds K fdNo ["_law_text"] []) (gNo : mg "_law_number_of" = some (.ref fNo)) (GNo : FnOk P w K mg base CX0 (k + 1) fNo fdNo ["_law_text"] spNo)
    (m_len : mg "len" = none) (m_min : mg "min" = none) (m_sum : mg "sum" = none) (m_tuple : mg "tuple" = none) : FnOk P w K mg base CX0 (k + 2) f fd ["_law_text"] spRo := by
  refine F.ok scRo (fun vs H Q E h => ?_) (fun cdv A outer s H vs Q E hr h => ?_)
  · obtain ⟨z, rfl, _⟩ := h
    rfl
  · obtain ⟨z, rfl, lz, q, qN⟩ := h
    have hr1 := hr
    refine ⟨_, pss_cons (ps_setLc (i := 2) (own := [("_law_part", 1)]) (g := gName 1) (tt := tYes) rfl scRo.nd rfl rfl (sw_true rfl rfl rfl (by decide +kernel)) (pi_list (pe_split (pv 0) pe_str)) (blkOk_by (N := nRo) (sc := defScope sRo) (by decide +kernel)) (fun _ _ _ _ _ => pg_name (i := 1) scRo.nd rfl (Or.inl rfl)) (fun _ _ _ _ _ => pts_nil) (fun _ _ _ _ _ => pe_call GNo hr1 (by rfl) gNo FNo.kp bNo .nil pass0 (pa_cons (pv 1) pa_nil)))
      (pss_cons (ps_if (PW.pt (pw_or (pt_cmpR op_gt (pe_callB call_len_seq (by rfl) m_len PySem.boot_len (pa_cons (pv 2) pa_nil)) pe_int (nomark _)) (pw_or (pt_cmpR op_lt (pe_callB (cr_min rfl) (by rfl) m_min (by decide +kernel) (pa_cons (pv 2) pa_nil)) pe_int (nomark _)) (pw_or1 (pt_not (pt_chain op_lt op_lt pe_int (pe_callB (cr_sum rfl) (by rfl) m_sum (by decide +kernel) (pa_cons (pv 2) pa_nil)) (pe_op op_pow pe_int pe_int))))))) (pss_one (ps_ret pe_non)) pss_nil)
      (pss_one (ps_ret (pe_callTy call_tuple_of (by rfl) m_tuple (by decide +kernel) (pa_cons (pv 2) pa_nil))))), ?_⟩
    have hl := TL.len_tl z
    refine ⟨_, rfl, ⟨_, rfl⟩, z, " ", rfl, rfl, by decide +kernel, by rw [sizeLine_eq]; omega, fun p np => ⟨p, rfl, ⟨_, SqL.of upd_same⟩, ?_⟩⟩
    have s1 : Same H (upd H p (.lst ((Txt.split z " ").map V.str))) := same_upd np
    have ep : upd H p (.lst ((Txt.split z " ").map V.str)) p = some (.lst ((Txt.split z " ").map V.str)) := upd_same
    have hy := TX.split_tl z eq_blank (by decide)
    generalize Txt.split z " " = ys at s1 ep hy ⊢
    generalize upd H p (HO.lst (ys.map V.str)) = H1 at s1 ep ⊢
    intro D nD
    have len1 : 1 ≤ ys.length := by
      have := TX.sp_ne 32 (TL.tl z) []
      rw [← hy, List.length_map] at this
      exact this
    have lenM : ys.length ≤ 90001 := by
      have := TX.sp_most 32 (TL.tl z) []
      rw [← hy, List.length_map] at this
      omega
    have eW : (TX.sp 32 [] (TL.tl z)).map TX.numW = (ys.map TL.tl).map TX.numW := by rw [hy]
    refine lc_list (K := K) (a := p) (xs := ys.map V.str) (fun m G => Same H1 G ∧ G D = some (.lst ((((ys.take m).map TL.tl).map noV).map V.int))) ⟨same_upd nD, upd_same⟩ ?_ ?_ ?_
    · rintro m G _ ⟨sm, _⟩
      exact SqL.of (sm _ _ ep)
    · rintro m v G hv ⟨sm, hD⟩
      rw [List.getElem?_map] at hv
      obtain ⟨y, hy', rfl⟩ := Option.map_eq_some_iff.mp hv
      have hm : m < ys.length := (List.getElem?_eq_some_iff.mp hy').1
      have ly : y.length ≤ 100000 := by
        have := TX.sp_short 32 (TL.tl z) [] (TL.tl y) (by rw [← hy]; exact List.mem_map.mpr ⟨y, List.mem_of_getElem? hy', rfl⟩)
        rw [List.length_nil] at this
        have e2 := TL.len_tl y
        omega
      refine ⟨rfl, _, rfl, y, rfl, ly, fun G2 s2 => ⟨_, s2 _ _ hD, by rw [List.length_map, List.length_map, List.length_map, List.length_take, sizeLine_eq]; omega, fun b o hb => ?_, ?_⟩⟩
      · rw [upd_ne (ne_of_none hb nD)]
        exact s2 _ _ (sm b o hb)
      · rw [upd_same, List.take_add_one, hy', List.map_append, List.map_append, List.map_append]; rfl
    · rintro G ⟨sm, hD⟩
      rw [List.length_map, List.take_length] at hD
      have s0 : Same H G := fun b o hb => sm _ _ (s1 b o hb)
      have nfl : ((ys.map TL.tl).map noV).length = ys.length := by rw [List.length_map, List.length_map]
      have rowT0 : TX.rowT (TL.tl z) = match TX.allN ((ys.map TL.tl).map TX.numW) with
          | some ns => if ns.length ≤ 12 ∧ 0 < ns.sum ∧ ns.sum < 10 ^ 30 then some ns else none
          | none => none := by unfold TX.rowT; rw [eW] <;> rfl
      have bad : ∀ l ∈ ys.map TL.tl, noV l < 0 → TX.rowT (TL.tl z) = none := fun l hl' h => by
        rw [rowT0, TX.allN_none (List.mem_map.mpr ⟨l, hl', noV_neg h⟩)]
      have many : 12 < ys.length → TX.rowT (TL.tl z) = none := fun h => by
        rw [rowT0]
        cases e : TX.allN ((ys.map TL.tl).map TX.numW) with
        | none => rfl
        | some ns =>
          have := congrArg List.length (TX.allN_some.mp e)
          rw [List.length_map, List.length_map, List.length_map] at this
          dsimp only
          rw [if_neg (fun y => by omega)]
      refine ⟨_, rfl, D, _, rfl, .inl (SqL.of hD), _, _, rfl, rfl, _, rfl, ite2 (fun h => iteT (qN (many (by have := of_decide_eq_true h; rw [List.length_map, nfl] at this; omega)) G s0)) (fun h1 => ?_)⟩
      have h1 : ys.length ≤ 12 := Nat.le_of_not_lt fun y => h1 (decide_eq_true (by rw [List.length_map, nfl]; omega))
      refine ⟨_, rfl, D, _, rfl, SqL.of hD, by rw [nfl]; omega, fun m hm hle => ?_⟩
      refine ⟨_, _, rfl, rfl, _, rfl, ite2 (fun h => iteT ?_) (fun h2 => ?_)⟩
      · obtain ⟨l, hl', e⟩ := List.mem_map.mp hm
        exact qN (bad l hl' (by rw [e]; exact of_decide_eq_true h)) G s0
      have h2 : 0 ≤ m := Int.not_lt.mp fun y => h2 (decide_eq_true y)
      obtain ⟨ns, en, ei⟩ := nums_all (ls := ys.map TL.tl) fun l hl' => Int.le_trans h2 (hle _ (List.mem_map.mpr ⟨l, hl', rfl⟩))
      rw [ei] at hD nfl
      have rowT1 : TX.rowT (TL.tl z) = if ns.length ≤ 12 ∧ 0 < ns.sum ∧ ns.sum < 10 ^ 30 then some ns else none := by
        rw [rowT0, en, TX.allN_some.mpr rfl]
      rw [List.length_map] at nfl
      refine ⟨_, rfl, D, _, rfl, SqL.of hD, ?_⟩
      rw [castN_sum]
      refine ⟨0, _, rfl, rfl, _, rfl, ?_⟩
      have no : ¬ (0 < ns.sum ∧ ns.sum < 10 ^ 30) → Q .non G := fun h => qN (by rw [rowT1, if_neg (fun y => h y.2)]) G s0
      refine ite2 (fun h3 => ?_) (fun h3 => ⟨false, rfl, iteT (no fun y => h3 (decide_eq_true (by omega)))⟩)
      have h3 := of_decide_eq_true h3
      refine ⟨10, 30, rfl, rfl, ⟨by decide, by decide, by decide⟩, _, _, rfl, rfl, ?_⟩
      have e30 : (10 : Int) ^ (30 : Int).toNat = ((10 ^ 30 : Nat) : Int) := by decide +kernel
      dsimp only
      rw [e30]
      by_cases h4 : ((ns.sum : Nat) : Int) < ((10 ^ 30 : Nat) : Int)
      · rw [decide_eq_true h4]
        refine ⟨true, rfl, iteF ⟨_, rfl, D, _, rfl, .inl ⟨SqL.of hD, fun t nt => ?_⟩⟩⟩
        refine q ns (by rw [rowT1, if_pos ⟨by omega, by omega, by omega⟩]) t _ (fun b o hb => same_upd nt _ _ (s0 b o hb)) ?_
        rw [upd_same, List.map_map]; rfl
      · rw [decide_eq_false h4]
        exact ⟨false, rfl, iteT (no fun y => h4 (by omega))⟩
def spUo : Sp := fun vs H Q _ => ∃ z : Str, vs = [.str z] ∧ z.length ≤ 90000 ∧ (∀ r, TX.runT (TL.tl z) = some r → ∀ p H', Same H H' → H' p = some (.tup (runV r)) → Q (.ref p) H') ∧ (TX.runT (TL.tl z) = none → ∀ H', Same H H' → Q .non H')
theorem ok_uo {f fNo : Addr} {fd fdNo : FuncData} {k : Nat} (F : Fun K "_law_run_of" "_law_run_of" sUo f fd)
    (FNo : Fun K "_law_number_of" "_law_number_of" sNo fNo fdNo) (bNo : Binds K fdNo ["_law_text"] []) (gNo : mg "_law_number_of" = some (.ref fNo)) (GNo : FnOk P w K mg base CX0 (k + 1) fNo fdNo ["_law_text"] spNo)
    (m_len : mg "len" = none) : FnOk P w K mg base CX0 (k + 2) f fd ["_law_text"] spUo := by
  refine F.ok scUo (fun vs H Q E h => ?_) (fun cdv A outer s H vs Q E hr h => ?_)
  · obtain ⟨z, rfl, _⟩ := h
    rfl
  · obtain ⟨z, rfl, lz, q, qN⟩ := h
    have hr1 := hr
    refine ⟨_, pss_cons (ps_set (i := 1) scUo.nd rfl (.inl rfl) (pe_split (pv 0) pe_str))
      (pss_cons (ps_set (i := 2) scUo.nd rfl (.inl rfl) (pe_split (pe_ix ix_list (pv 1) pe_int (fun _ _ => rfl)) pe_str))
      (pss_cons (ps_if (PW.pt (pw_or (pt_cmpR op_ne (pe_callB call_len_seq (by rfl) m_len PySem.boot_len (pa_cons (pv 1) pa_nil)) pe_int (nomark _)) (pw_or1 (pt_cmpR op_ne (pe_callB call_len_seq (by rfl) m_len PySem.boot_len (pa_cons (pv 2) pa_nil)) pe_int (nomark _))))) (pss_one (ps_ret pe_non)) pss_nil)
      (pss_cons (ps_asg (pe_lc (own := [("_law_part", 3)]) (g := gName 3) (tt := tYes) rfl scUo.nd (pi_list (pe_op op_cat (pv 2) (pe_slice sl_list (pv 1) (po_some pe_int) po_none))) (blkOk_by (N := nUo) (sc := defScope sUo) (by decide +kernel)) (fun _ _ _ _ _ => pg_name (i := 3) scUo.nd rfl (Or.inl rfl)) (fun _ _ _ _ _ => pts_nil) (fun _ _ _ _ _ => pe_call GNo hr1 (by rfl) gNo FNo.kp bNo .nil pass0 (pa_cons (pv 3) pa_nil))) (pg_lst rfl (pgs_cons (pg_name (i := 4) scUo.nd rfl (.inl rfl)) (pgs_cons (pg_name (i := 5) scUo.nd rfl (.inl rfl)) (pgs_cons (pg_name (i := 6) scUo.nd rfl (.inl rfl)) pgs_nil)))))
      (pss_one (ps_ret (pe_ifExp (PW.pt (pw_and (pt_chain op_le op_lt pe_int (pv 4) pe_int) (pw_and (pt_chain op_le op_lt pe_int (pv 5) pe_int) (pw_and (pt_cmpR op_ne (pv 4) (pv 5) (nomark _)) (pw_and1 (pt_cmpR op_ge (pv 6) pe_int (nomark _))))))) (pe_tup (pa_cons (pv 4) (pa_cons (pv 5) (pa_cons (pv 6) pa_nil)))) pe_non)))))), ?_⟩
    have hl := TL.len_tl z
    refine ⟨_, rfl, ⟨_, rfl⟩, z, "*", rfl, rfl, by decide +kernel, by rw [sizeLine_eq]; omega, fun p np => ?_⟩
    have s1 : Same H (upd H p (.lst ((Txt.split z "*").map V.str))) := same_upd np
    have ep : upd H p (.lst ((Txt.split z "*").map V.str)) p = some (.lst ((Txt.split z "*").map V.str)) := upd_same
    have hy := TX.split_tl z eq_star (by decide)
    dsimp only
    generalize Txt.split z "*" = ys at s1 ep hy ⊢
    generalize upd H p (HO.lst (ys.map V.str)) = H1 at s1 ep ⊢
    have short : ∀ y ∈ ys, y.length ≤ 90000 := fun y hm => by
      have := TX.sp_short 42 (TL.tl z) [] (TL.tl y) (by rw [← hy]; exact List.mem_map.mpr ⟨y, hm, rfl⟩)
      rw [List.length_nil] at this
      have e2 := TL.len_tl y
      omega
    obtain ⟨y0, ys', rfl⟩ : ∃ y0 ys', ys = y0 :: ys' := by
      cases ys with
      | nil => have := TX.sp_ne 42 (TL.tl z) []; rw [← hy] at this; exact absurd this (by decide)
      | cons a b => exact ⟨a, b, rfl⟩
    have ly0 := short y0 List.mem_cons_self
    refine ⟨_, rfl, p, _, 0, .str y0, rfl, rfl, SqL.of ep, atI_nat (j := 0) rfl, ⟨_, rfl⟩, y0, ">", rfl, rfl, by decide +kernel, by rw [sizeLine_eq]; omega, fun p2 np2 => ?_⟩
    have s2 : Same H1 (upd H1 p2 (.lst ((Txt.split y0 ">").map V.str))) := same_upd np2
    have ep2 : upd H1 p2 (.lst ((Txt.split y0 ">").map V.str)) p2 = some (.lst ((Txt.split y0 ">").map V.str)) := upd_same
    have hw := TX.split_tl y0 eq_arrow (by decide)
    dsimp only
    generalize Txt.split y0 ">" = ws at s2 ep2 hw ⊢
    generalize upd H1 p2 (HO.lst (ws.map V.str)) = H2 at s2 ep2 ⊢
    have s02 := s1.trans s2
    have ep1 := s2 _ _ ep
    have len1 : (TX.sp 42 [] (TL.tl z)).length = (y0 :: ys').length := by rw [← hy, List.length_map]
    have head : (TX.sp 42 [] (TL.tl z)).getD 0 [] = TL.tl y0 := by rw [← hy]; rfl
    have len2 : (TX.sp 62 [] ((TX.sp 42 [] (TL.tl z)).getD 0 [])).length = ws.length := by rw [head, ← hw, List.length_map]
    have parts := TX.run_parts (TL.tl z)
    rw [len1, len2] at parts
    have sure : ¬ ((y0 :: ys').length = 2 ∧ ws.length = 2) → TX.runT (TL.tl z) = none := fun h => by
      rcases parts with ⟨g, t, b, e1, e2, _⟩ | ⟨e, _⟩
      · refine absurd ⟨?_, ?_⟩ h
        · rw [← len1, e1]; rfl
        · rw [← len2, e1]; show (TX.sp 62 [] (g ++ 62 :: t)).length = 2; rw [e2]; rfl
      · exact e
    refine ⟨_, rfl, p, _, rfl, .inl (SqL.of ep1), rfl, _, rfl, ?_⟩
    rw [List.length_map]
    by_cases a1 : (y0 :: ys').length = 2
    case neg =>
      rw [decide_eq_false (fun e => a1 (by have := V.int.inj e; omega))]
      exact iteT (iteT (qN (sure fun y => a1 y.1) H2 s02))
    rw [decide_eq_true (show V.int (((y0 :: ys').length : Nat) : Int) = V.int 2 by rw [a1]; rfl)]
    refine iteF ⟨_, rfl, p2, _, rfl, .inl (SqL.of ep2), rfl, _, rfl, ?_⟩
    rw [List.length_map]
    by_cases a2 : ws.length = 2
    case neg =>
      rw [decide_eq_false (fun e => a2 (by have := V.int.inj e; omega))]
      exact iteT (qN (sure fun y => a2 y.2) H2 s02)
    rw [decide_eq_true (show V.int ((ws.length : Nat) : Int) = V.int 2 by rw [a2]; rfl)]
    obtain ⟨w0, w1, rfl⟩ : ∃ w0 w1, ws = [w0, w1] := by
      match ws, a2 with
      | [a, b], _ => exact ⟨a, b, rfl⟩
    obtain ⟨y1, rfl⟩ : ∃ y1, ys' = [y1] := by
      match ys', a1 with
      | [a], _ => exact ⟨a, rfl⟩
    have key : TX.runT (TL.tl z) = TX.threeW (TL.tl w0) (TL.tl w1) (TL.tl y1) := by
      rcases parts with ⟨g, t, b, e1, e2, e3⟩ | ⟨_, e | e⟩
      · rw [← hy] at e1
        have e1' : [TL.tl y0, TL.tl y1] = [g ++ 62 :: t, b] := e1
        obtain ⟨f1, f2⟩ := List.cons.inj e1'
        obtain ⟨f2, _⟩ := List.cons.inj f2
        rw [← f1, ← hw] at e2
        have e2' : [TL.tl w0, TL.tl w1] = [g, t] := e2
        obtain ⟨g1, g2⟩ := List.cons.inj e2'
        obtain ⟨g2, _⟩ := List.cons.inj g2
        rw [e3, g1, g2, f2]
      · exact absurd rfl e
      · exact absurd rfl e
    have lw : ∀ w' ∈ [w0, w1], w'.length ≤ 100000 := fun w' hm => by
      have := TX.sp_short 62 (TL.tl y0) [] (TL.tl w') (by rw [← hw]; exact List.mem_map.mpr ⟨w', hm, rfl⟩)
      rw [List.length_nil] at this
      have e2 := TL.len_tl w'
      have e3 := TL.len_tl y0
      omega
    have ly1 : y1.length ≤ 100000 := by have := short y1 (List.mem_cons_of_mem _ List.mem_cons_self); omega
    refine iteF ⟨_, rfl, _, rfl, 1, rfl, ?_⟩
    dsimp only [tNoPart]
    refine ⟨p, _, rfl, SqL.of ep1, fun p3 np3 => ?_⟩
    rw [show cutV ([y0, y1].map V.str) (some 1) none = [V.str y1] from cut_fromV (xs := [y0, y1].map V.str) (n := 1) (by show 1 ≤ 2; decide)]
    have s3 : Same H2 (upd H2 p3 (.lst [.str y1])) := same_upd np3
    refine ⟨p2, p3, _, _, rfl, rfl, s3 _ _ ep2, upd_same, by show 3 ≤ sizeLine; decide, fun p4 np4 => ⟨p4, rfl, ⟨_, SqL.of upd_same⟩, ?_⟩⟩
    have s4 := s3.trans (same_upd (o := .lst ([w0, w1].map V.str ++ [V.str y1])) np4)
    have ep4 : upd (upd H2 p3 (.lst [.str y1])) p4 (.lst ([w0, w1].map V.str ++ [V.str y1])) p4 = some (.lst (([w0, w1, y1] : List Str).map V.str)) := upd_same
    show ∀ D, _ → _
    generalize upd (upd H2 p3 (HO.lst [.str y1])) p4 (HO.lst ([w0, w1].map V.str ++ [V.str y1])) = H4 at s4 ep4 ⊢
    intro D nD
    refine lc_list (K := K) (a := p4) (xs := ([w0, w1, y1] : List Str).map V.str) (fun m G => Same H4 G ∧ G D = some (.lst (((([w0, w1, y1] : List Str).take m).map fun y => noV (TL.tl y)).map V.int))) ⟨same_upd nD, upd_same⟩ ?_ ?_ ?_
    · rintro m G _ ⟨sm, _⟩
      exact SqL.of (sm _ _ ep4)
    · rintro m v G hv ⟨sm, hD⟩
      rw [List.getElem?_map] at hv
      obtain ⟨y, hy', rfl⟩ := Option.map_eq_some_iff.mp hv
      have ly : y.length ≤ 100000 := by
        have := List.mem_of_getElem? hy'
        simp only [List.mem_cons, List.not_mem_nil, or_false] at this
        rcases this with h | h | h
        · rw [h]; exact lw w0 List.mem_cons_self
        · rw [h]; exact lw w1 (List.mem_cons_of_mem _ List.mem_cons_self)
        · rw [h]; exact ly1
      have m3 : m < 3 := (List.getElem?_eq_some_iff.mp hy').1
      refine ⟨rfl, _, rfl, y, rfl, ly, fun G2 s2' => ⟨_, s2' _ _ hD, by rw [List.length_map, List.length_map, List.length_take]; exact small1000 (by omega), fun b o hb => ?_, ?_⟩⟩
      · rw [upd_ne (ne_of_none hb nD)]
        exact s2' _ _ (sm b o hb)
      · rw [upd_same, List.take_add_one, hy', List.map_append, List.map_append]; rfl
    · rintro G ⟨sm, hD⟩
      have s0 : Same H G := fun b o hb => sm _ _ (s4 _ _ (s02 b o hb))
      have hD : G D = some (.lst [.int (noV (TL.tl w0)), .int (noV (TL.tl w1)), .int (noV (TL.tl y1))]) := hD
      refine ⟨D, _, rfl, SqL.of hD, rfl, _, _, rfl, _, _, rfl, _, _, rfl, rfl, ?_⟩
      rw [key] at q qN
      have no : TX.threeW (TL.tl w0) (TL.tl w1) (TL.tl y1) = none → Q .non G := fun h => qN h G s0
      have low : ∀ l : List Nat, ¬ 0 ≤ noV l → TX.numW l = none := fun l h => noV_neg (by omega)
      have val : ∀ l : List Nat, 0 ≤ noV l → ∃ n : Nat, TX.numW l = some n ∧ noV l = (n : Int) := fun l h => by
        cases e : TX.numW l with
        | none => rw [noV_none e] at h; omega
        | some n => exact ⟨n, rfl, noV_some e⟩
      refine ⟨_, rfl, 0, _, rfl, rfl, _, rfl, ite2 (fun b1 => ?_) (fun b1 => ⟨false, rfl, iteF (iteF (no (TX.three_none1 (low _ fun y => b1 (decide_eq_true y)))))⟩)⟩
      obtain ⟨i, ei, vi⟩ := val _ (of_decide_eq_true b1)
      rw [vi]
      have e3w : ∀ j n : Nat, TX.numW (TL.tl w1) = some j → TX.numW (TL.tl y1) = some n → TX.threeW (TL.tl w0) (TL.tl w1) (TL.tl y1) = if i ≠ j ∧ i < 12 ∧ j < 12 then some (i, j, n) else none := fun j n h1 h2 => by unfold TX.threeW; rw [ei, h1, h2]
      have bad : (∀ j : Nat, TX.numW (TL.tl w1) = some j → ¬ (i ≠ j ∧ i < 12 ∧ j < 12)) → TX.threeW (TL.tl w0) (TL.tl w1) (TL.tl y1) = none := fun h => by
        cases h1 : TX.numW (TL.tl w1) with
        | none => exact TX.three_none2 h1
        | some j =>
          cases h2 : TX.numW (TL.tl y1) with
          | none => exact TX.three_none3 h2
          | some n => rw [e3w j n h1 h2, if_neg (h j h1)]
      refine ⟨_, 12, rfl, rfl, ?_⟩
      dsimp only
      by_cases b2 : ((i : Nat) : Int) < 12
      case neg =>
        rw [decide_eq_false b2]
        exact ⟨false, rfl, iteF (iteF (no (bad fun j _ y => b2 (by omega))))⟩
      rw [decide_eq_true b2]
      refine ⟨true, rfl, iteT ⟨_, rfl, 0, _, rfl, rfl, _, rfl, ite2 (fun b3 => ?_) (fun b3 => ⟨false, rfl, iteF (iteF (no (TX.three_none2 (low _ fun y => b3 (decide_eq_true y)))))⟩)⟩⟩
      obtain ⟨j, ej, vj⟩ := val _ (of_decide_eq_true b3)
      rw [vj]
      refine ⟨_, 12, rfl, rfl, ?_⟩
      dsimp only
      by_cases b4 : ((j : Nat) : Int) < 12
      case neg =>
        rw [decide_eq_false b4]
        exact ⟨false, rfl, iteF (iteF (no (bad fun j' hj' y => b4 (by rw [ej] at hj'; cases hj'; omega))))⟩
      rw [decide_eq_true b4]
      refine ⟨true, rfl, iteT ⟨_, rfl, _, rfl, rfl, _, rfl, ?_⟩⟩
      by_cases b5 : i = j
      · subst b5
        rw [decide_eq_true rfl]
        exact iteF (iteF (no (bad fun j' hj' y => y.1 (by rw [ej] at hj'; cases hj'; rfl))))
      rw [decide_eq_false (fun e => b5 (by have := V.int.inj e; omega))]
      refine iteT ⟨_, rfl, _, 0, rfl, rfl, _, rfl, ?_⟩
      by_cases b6 : noV (TL.tl y1) ≥ 0
      case neg =>
        rw [decide_eq_false b6]
        exact iteF (no (TX.three_none3 (low _ b6)))
      rw [decide_eq_true b6]
      obtain ⟨n, en, vn⟩ := val _ b6
      rw [vn]
      refine iteT ⟨_, rfl, _, rfl, _, rfl, by show 3 ≤ sizeLine; decide, fun t nt => ?_⟩
      exact q (i, j, n) (by rw [e3w j n ej en, if_pos ⟨b5, by omega, by omega⟩]) t _ (fun b o hb => same_upd nt _ _ (s0 b o hb)) upd_same
def spPo : Sp := fun vs H Q _ => ∃ z : Str, vs = [.str z] ∧ z.length ≤ 90000 ∧ (∀ rs, TX.planT (TL.tl z) = some rs → ∀ p H' (ts : List Addr), Same H H' → H' p = some (.tup (ts.map V.ref)) → RunsAt H' ts rs → Q (.ref p) H') ∧ (TX.planT (TL.tl z) = none → ∀ H', Same H H' → Q .non H')
theorem ok_po {f fUo : Addr} {fd fdUo : FuncData} {k : Nat} (F : Fun K "_law_plan_of" "_law_plan_of" sPo f fd)
    (FUo : Fun K "_law_run_of" "_law_run_of" sUo fUo fdUo) (bUo : Binds K fdUo ["_law_text"] []) (gUo : mg "_law_run_of" = some (.ref fUo)) (GUo : FnOk P w K mg base CX0 (k + 2) fUo fdUo ["_law_text"] spUo)
    (m_tuple : mg "tuple" = none) : FnOk P w K mg base CX0 (k + 3) f fd ["_law_text"] spPo := by
  refine F.ok scPo (fun vs H Q E h => ?_) (fun cdv A outer s H vs Q E hr h => ?_)
  · obtain ⟨z, rfl, _⟩ := h
    rfl
  · obtain ⟨z, rfl, lz, q, qN⟩ := h
    have hr2 := hr
    refine ⟨_, pss_cons (ps_if (pt_cmpR op_eq (pv 0) pe_str (nomark _)) (pss_one (ps_ret (pe_tup pa_nil))) pss_nil)
      (pss_cons (ps_setLc (i := 2) (own := [("_law_part", 1)]) (g := gName 1) (tt := tYes) rfl scPo.nd rfl rfl (sw_true rfl rfl rfl (by decide +kernel)) (pi_list (pe_split (pv 0) pe_str)) (blkOk_by (N := nPo) (sc := defScope sPo) (by decide +kernel)) (fun _ _ _ _ _ => pg_name (i := 1) scPo.nd rfl (Or.inl rfl)) (fun _ _ _ _ _ => pts_nil) (fun _ _ _ _ _ => pe_call GUo hr2 (by rfl) gUo FUo.kp bUo .nil pass0 (pa_cons (pv 1) pa_nil)))
      (pss_one (ps_ret (pe_ifExp (pt_cmpR (op_inD (units65 hr)) pe_non (pv 2) (by rfl)) pe_non (pe_callTy call_tuple_of (by rfl) m_tuple (by decide +kernel) (pa_cons (pv 2) pa_nil)))))), ?_⟩
    have hl := TL.len_tl z
    have dash : z = "-" ↔ TL.tl z = [45] := ⟨fun e => by rw [e, eq_dash], fun e => TL.ext_tl (e.trans eq_dash.symm)⟩
    refine ⟨_, rfl, rfl, _, rfl, ite2 (fun h => ?_) (fun h => ?_)⟩
    · have h := dash.mp (V.str.inj (of_decide_eq_true h))
      have e : TX.planT (TL.tl z) = some [] := by unfold TX.planT; rw [if_pos (TX.plan_dash.mpr h)]
      exact ⟨by show 0 ≤ sizeLine; decide, fun t nt => q [] e t _ [] (same_upd nt) upd_same RunsAt.nil⟩
    have h : ¬ TX.sp 32 [] (TL.tl z) = [[45]] := fun e => h (decide_eq_true (by rw [dash.mpr (TX.plan_dash.mp e)]))
    refine ⟨_, rfl, ⟨_, rfl⟩, z, " ", rfl, rfl, by decide +kernel, by rw [sizeLine_eq]; omega, fun p np => ⟨p, rfl, ⟨_, SqL.of upd_same⟩, ?_⟩⟩
    have s1 : Same H (upd H p (.lst ((Txt.split z " ").map V.str))) := same_upd np
    have ep : upd H p (.lst ((Txt.split z " ").map V.str)) p = some (.lst ((Txt.split z " ").map V.str)) := upd_same
    have hy := TX.split_tl z eq_blank (by decide)
    generalize Txt.split z " " = ys at s1 ep hy ⊢
    generalize upd H p (HO.lst (ys.map V.str)) = H1 at s1 ep ⊢
    intro D nD
    have lenM : ys.length ≤ 90001 := by
      have := TX.sp_most 32 (TL.tl z) []
      rw [← hy, List.length_map] at this
      omega
    have eP : TX.planT (TL.tl z) = TX.allN (ys.map fun y => TX.runT (TL.tl y)) := by
      unfold TX.planT
      rw [if_neg h, ← hy, List.map_map]; rfl
    rw [eP] at q qN
    refine lc_list (K := K) (a := p) (xs := ys.map V.str) (fun m G => Same H1 G ∧ ∃ xs : List V, G D = some (.lst xs) ∧ OptsAt G xs ((ys.take m).map fun y => TX.runT (TL.tl y))) ⟨same_upd nD, [], upd_same, .nil⟩ ?_ ?_ ?_
    · rintro m G _ ⟨sm, _⟩
      exact SqL.of (sm _ _ ep)
    · rintro m v G hv ⟨sm, xs, hD, hO⟩
      rw [List.getElem?_map] at hv
      obtain ⟨y, hy', rfl⟩ := Option.map_eq_some_iff.mp hv
      have hm : m < ys.length := (List.getElem?_eq_some_iff.mp hy').1
      have ly : y.length ≤ 90000 := by
        have := TX.sp_short 32 (TL.tl z) [] (TL.tl y) (by rw [← hy]; exact List.mem_map.mpr ⟨y, List.mem_of_getElem? hy', rfl⟩)
        rw [List.length_nil] at this
        have e2 := TL.len_tl y
        omega
      have xl : xs.length = m := by rw [hO.len, List.length_map, List.length_take]; omega
      have go : ∀ (v : V) (G2 : Hp), Same G G2 → OptAt G2 v (TX.runT (TL.tl y)) → ∃ acc, G2 D = some (.lst acc) ∧ acc.length < sizeLine ∧ Same H1 (upd G2 D (.lst (acc ++ [v]))) ∧ ∃ xs : List V, upd G2 D (.lst (acc ++ [v])) D = some (.lst xs) ∧ OptsAt (upd G2 D (.lst (acc ++ [v]))) xs ((ys.take (m + 1)).map fun y => TX.runT (TL.tl y)) := fun v G2 s2 ho => by
        have hD2 := s2 _ _ hD
        refine ⟨xs, hD2, by rw [xl, sizeLine_eq]; omega, fun b o hb => ?_, xs ++ [v], upd_same, ?_⟩
        · rw [upd_ne (ne_of_none hb nD)]
          exact s2 _ _ (sm b o hb)
        · rw [List.take_add_one, hy', List.map_append]
          exact ((hO.mono fun a xs h => s2 _ _ h).snoc ho).mono fun a xs' h' => by
            rw [upd_ne (fun e => by rw [e, hD2] at h'; cases h')]
            exact h'
      refine ⟨rfl, _, rfl, y, rfl, ly, fun r hr' t G2 s2 et => go _ G2 s2 (.inr ⟨r, t, hr', rfl, et⟩), fun hr' G2 s2 => go _ G2 s2 (.inl ⟨hr', rfl⟩)⟩
    · rintro G ⟨sm, xs, hD, hO⟩
      rw [List.length_map, List.take_length] at hO
      have s0 : Same H G := fun b o hb => sm _ _ (s1 b o hb)
      refine ⟨_, rfl, .none, _, .non, .lst (SqL.of hD) hO.dp, rfl, opts_shaped _, _, rfl, ?_⟩
      rw [opts_any]
      refine ite2 (fun hn => qN (TX.allN_none (of_decide_eq_true hn)) G s0) (fun hn => ?_)
      have hn : ∀ y ∈ ys, TX.runT (TL.tl y) ≠ none := fun y hm e => hn (decide_eq_true (List.mem_map.mpr ⟨y, hm, e⟩))
      obtain ⟨rs, ers⟩ := TX.allN_map hn
      have e2 := TX.allN_some.mp ers
      rw [e2] at hO
      obtain ⟨ts, rfl, hR⟩ := hO.all
      refine ⟨_, rfl, D, _, rfl, .inl ⟨SqL.of hD, fun t nt => ?_⟩⟩
      exact q rs ers t _ ts (fun b o hb => same_upd nt _ _ (s0 b o hb)) upd_same (hR.mono fun a xs h' => same_upd nt _ _ h')
end
end K61

namespace K61
open PySem PySem.Spec PyProof.Rows L2 MG
abbrev sBe : Stmt := topS 39
abbrev nBe : List Str := ["_law_box_here", "_law_text", "_law_lot", "_law_at", "_law_sign", "_law_words", "_law_spot", "_law_some"]
theorem scBe : FnScope ["_law_box_here", "_law_text", "_law_lot", "_law_at", "_law_sign", "_law_words", "_law_spot", "_law_some"] ["_law_box_here", "_law_text"] (defScope sBe) := ⟨rfl, rfl, rfl, by decide +kernel, rfl, by decide +kernel, by decide +kernel⟩
abbrev sTh : Stmt := topS 40
abbrev nTh : List Str := ["_law_box_here", "_law_text", "_law_some"]
theorem scTh : FnScope ["_law_box_here", "_law_text", "_law_some"] ["_law_box_here", "_law_text"] (defScope sTh) := ⟨rfl, rfl, rfl, by decide +kernel, rfl, by decide +kernel, by decide +kernel⟩
section
variable {P : Program} {w : World} {K : PySem.W.Frag} {mg : Str → Option Value} {base : Heap}
/-- one sign of a text -/
def spOfS : Sp := fun vs H Q _ => ∃ (b : Addr) (z : Str) (n : Nat), vs = [.ref b, .str z] ∧ Box H b n ∧ n ≤ 1000000 ∧ 1 ≤ z.length ∧ z.length ≤ 1000 ∧ ∀ (c : Nat) H', c ∈ TL.tl z → Box H' b (n + 1) → (∀ a, a ≠ b → H' a = H a) → Q (.str ⟨#[c]⟩) H'
theorem ok_ofS {f fT : Addr} {fd fdT : FuncData} {k : Nat} (F : Fun K "_law_of" "_law_of" sOf f fd) (FT : Fun K "_law_take" "_law_take" sTake fT fdT) (bT : Binds K fdT ["_law_box_here", "_law_many"] [])
    (gT : mg "_law_take" = some (.ref fT)) (m_len : mg "len" = none) : FnOk P w K mg base CX0 (k + 2) f fd ["_law_box_here", "_law_some"] spOfS := by
  have GT : FnOk P w K mg base CX0 (k + 1) fT fdT ["_law_box_here", "_law_many"] spTake := ok_take FT
  refine F.ok scOf (fun vs H Q E h => ?_) (fun cdv A outer s H vs Q E hr h => ?_)
  · obtain ⟨b, z, n, rfl, _⟩ := h
    rfl
  · obtain ⟨b, z, n, rfl, hB, hn, l1, l2, q⟩ := h
    refine ⟨_, pss_one (ps_ret (pe_ix ix_str (pv 1) (pe_call GT hr (by rfl) gT FT.kp bT .nil pass0 (pa_cons (pv 0) (pa_cons
      (pe_callB call_len_str (by rfl) m_len PySem.boot_len (pa_cons (pv 1) pa_nil)) pa_nil))) (fun _ _ => rfl))), ?_⟩
    refine ⟨_, rfl, _, rfl, _, rfl, z, rfl, by rw [sizeLine_eq]; omega, b, (z.length : Int), n, rfl, hB, hn, by omega, by omega, fun r H' r0 r1 hB' hk => ?_⟩
    obtain ⟨j, rfl⟩ := Int.eq_ofNat_of_zero_le r0
    have hl := TL.len_tl z
    have hj : j < (TL.tl z).length := by omega
    exact ⟨z, _, (TL.tl z)[j], rfl, rfl, by rw [sizeLine_eq]; omega, atI_nat (List.getElem?_eq_getElem hj), q _ H' (List.getElem_mem hj) hB' hk⟩
def spBe : Sp := fun vs H Q _ => ∃ (b : Addr) (z : Str) (n N : Nat), vs = [.ref b, .str z] ∧ Box H b n ∧ n ≤ 900000 ∧ TX.Tok z N ∧ N ≤ 20000 ∧ ∀ (y : Str) H', TX.Tok y (3 * N + 100) → SX b H H' → Box H' b (n + 6) → Q (.str y) H'
theorem ok_be {f fT fO : Addr} {fd fdT fdO : FuncData} {k : Nat} (F : Fun K "_law_bent" "_law_bent" sBe f fd)
    (FT : Fun K "_law_take" "_law_take" sTake fT fdT) (bT : Binds K fdT ["_law_box_here", "_law_many"] []) (gT : mg "_law_take" = some (.ref fT))
    (FO : Fun K "_law_of" "_law_of" sOf fO fdO) (bO : Binds K fdO ["_law_box_here", "_law_some"] []) (gO : mg "_law_of" = some (.ref fO)) (m_len : mg "len" = none) (m_int : mg "int" = none) : FnOk P w K mg base CX0 (k + 3) f fd ["_law_box_here", "_law_text"] spBe := by
  have GT : FnOk P w K mg base CX0 (k + 1) fT fdT ["_law_box_here", "_law_many"] spTake := ok_take FT
  have GO : FnOk P w K mg base CX0 (k + 2) fO fdO ["_law_box_here", "_law_some"] spOf := ok_of FO FT bT gT m_len
  have GOS : FnOk P w K mg base CX0 (k + 2) fO fdO ["_law_box_here", "_law_some"] spOfS := ok_ofS FO FT bT gT m_len
  refine F.ok scBe (fun vs H Q E h => ?_) (fun cdv A outer s H vs Q E hr h => ?_)
  · obtain ⟨b, z, n, N, rfl, _⟩ := h
    rfl
  · obtain ⟨b, z, n, N, rfl, hB, hn, tz, lN, want⟩ := h
    have hr2 := hr
    have hr1 := hr.mono (show k + 1 ≤ k + 2 by omega)
    refine ⟨_, pss_cons (ps_par3 (i := 2) (j := 3) (l := 4) rfl scBe.nd rfl rfl rfl (by decide) (by decide) (by decide) rfl rfl rfl (pa_cons (pe_call GT hr1 (by rfl) gT FT.kp bT .nil pass0 (pa_cons (pv 0) (pa_cons pe_int pa_nil))) (pa_cons (pe_call GT hr1 (by rfl) gT FT.kp bT .nil pass0 (pa_cons (pv 0) (pa_cons (pe_op op_add (pe_callB call_len_str (by rfl) m_len PySem.boot_len (pa_cons (pv 1) pa_nil)) pe_int) pa_nil))) (pa_cons (pe_call GOS hr2 (by rfl) gO FO.kp bO .nil pass0 (pa_cons (pv 0) (pa_cons pe_str pa_nil))) pa_nil))) (by rfl))
      (pss_cons (ps_set (i := 5) scBe.nd rfl (.inl rfl) (pe_split (pv 1) pe_str))
      (pss_cons (ps_set (i := 6) scBe.nd rfl (.inl rfl) (pe_call GT hr1 (by rfl) gT FT.kp bT .nil pass0 (pa_cons (pv 0) (pa_cons (pe_callB call_len_seq (by rfl) m_len PySem.boot_len (pa_cons (pv 5) pa_nil)) pa_nil))))
      (pss_cons (ps_if (pt_cmpR op_eq (pv 2) pe_int (nomark _)) (pss_one (ps_ret (pe_op op_add_str (pe_op op_add_str (pe_slice sl_str (pv 1) po_none (po_some (pv 3))) (pv 4)) (pe_slice sl_str (pv 1) (po_some (pv 3)) po_none)))) pss_nil)
      (pss_cons (ps_if (pt_cmpR op_eq (pv 2) pe_int (nomark _)) (pss_one (ps_ret (pe_op op_add_str (pe_slice sl_str (pv 1) po_none (po_some (pv 3))) (pe_slice sl_str (pv 1) (po_some (pe_op op_add (pv 3) pe_int)) po_none)))) pss_nil)
      (pss_cons (ps_if (pt_cmpR op_eq (pv 2) pe_int (nomark _)) (pss_one (ps_ret (pe_op op_add_str (pe_op op_add_str (pe_slice sl_str (pv 1) po_none (po_some (pv 3))) (pv 4)) (pe_slice sl_str (pv 1) (po_some (pe_op op_add (pv 3) pe_int)) po_none)))) pss_nil)
      (pss_cons (ps_if (pt_cmpR op_eq (pv 2) pe_int (nomark _)) (pss_one (ps_ret (pe_op op_add_str (pe_op op_add_str (pe_slice sl_str (pv 1) po_none (po_some (pv 3))) (pe_revS (pe_slice sl_str (pv 1) (po_some (pv 3)) (po_some (pe_op op_add (pv 3) pe_int))))) (pe_slice sl_str (pv 1) (po_some (pe_op op_add (pv 3) pe_int)) po_none)))) pss_nil)
      (pss_cons (ps_if (pt_cmpR op_eq (pv 2) pe_int (nomark _)) (pss_one (ps_ret (pe_join pe_str (pe_op op_cat (pe_slice sl_list (pv 5) po_none (po_some (pv 6))) (pe_slice sl_list (pv 5) (po_some (pe_op op_add (pv 6) pe_int)) po_none))))) pss_nil)
      (pss_cons (ps_if (pt_cmpR op_eq (pv 2) pe_int (nomark _)) (pss_one (ps_ret (pe_join pe_str (pe_op op_cat (pe_slice sl_list (pv 5) po_none (po_some (pe_op op_add (pv 6) pe_int))) (pe_slice sl_list (pv 5) (po_some (pv 6)) po_none))))) pss_nil)
      (pss_cons (ps_set (i := 7) scBe.nd rfl (.inl rfl) (pe_lst (pa_cons (pe_op repS0 pe_str pe_int) (pa_cons (pe_op op_add_str pe_str (pe_op repS0 pe_str pe_int)) (pa_cons (pe_op op_add_str pe_str (pe_op repS0 pe_str pe_int)) (pa_cons pe_str (pa_cons pe_str (pa_cons pe_str (pa_cons pe_str (pa_cons pe_str (pa_cons (pe_op op_add_str pe_str (pe_op repS0 pe_str pe_int)) (pa_cons pe_str pa_nil))))))))))))
      (pss_one (ps_ret (pe_join pe_str (pe_op op_cat (pe_op op_cat (pe_slice sl_list (pv 5) po_none (po_some (pv 6))) (pe_lst (pa_cons (pe_call GO hr2 (by rfl) gO FO.kp bO .nil pass0 (pa_cons (pv 0) (pa_cons (pv 7) pa_nil))) pa_nil))) (pe_slice sl_list (pv 5) (po_some (pe_op op_add (pv 6) (pe_callTy call_int1 (by rfl) m_int (by decide +kernel) (pa_cons (pe_cmpR op_eq (pv 2) pe_int (nomark _)) pa_nil)))) po_none)))))))))))))), ?_⟩
    have lz := tz.1
    have zs : z.length ≤ sizeLine := by rw [sizeLine_eq]; omega
    refine ⟨_, rfl, b, 8, _, rfl, hB, by omega, by decide, by decide, fun lot G1 _ _ B1 k1 => ?_⟩
    refine ⟨_, rfl, _, rfl, z, rfl, zs, _, 1, rfl, rfl, b, _, _, rfl, B1, by omega, by omega, by omega, fun at_ G2 _ _ B2 k2 => ?_⟩
    refine ⟨_, rfl, b, _, _, rfl, B2, by omega, by decide +kernel, by decide +kernel, fun c G3 hc B3 k3 => ⟨_, _, _, rfl, ?_⟩⟩
    have x3 : SX b H G3 := ((SX.of_eq k1).trans (.of_eq k2)).trans (.of_eq k3)
    have tc : TX.Tok (⟨#[c]⟩ : Str) 1 := ⟨Nat.le_refl 1, fun d hd => by
      have hd : d ∈ [c] := hd
      rw [List.mem_singleton.mp hd]
      exact (by decide +kernel : ∀ c ∈ TL.tl ("0123456789 >*-ax\n?" : Str), c < 1114112) c hc⟩
    have fin : ∀ (y : Str) (G : Hp), TX.Tok y (3 * N + 100) → SX b G3 G → Box G b (n + 6) → Q (.str y) G := fun y G t x B => want y G t (x3.trans x) B
    refine ⟨_, rfl, ⟨_, rfl⟩, z, " ", rfl, rfl, by decide +kernel, by rw [sizeLine_eq]; omega, fun p np => ?_⟩
    have x4 : SX b G3 (upd G3 p (.lst ((Txt.split z " ").map V.str))) := (SX.refl b G3).new np
    have B4 := B3.new (o := .lst ((Txt.split z " ").map V.str)) np
    have e4 : upd G3 p (.lst ((Txt.split z " ").map V.str)) p = some (.lst ((Txt.split z " ").map V.str)) := upd_same
    have hw := TX.split_wds eq_blank tz
    have n1 : 1 ≤ (Txt.split z " ").length := by
      have h1 := TX.sp_ne 32 (TL.tl z) []
      rw [← TX.split_tl z eq_blank (by decide), List.length_map] at h1
      exact h1
    have n2 : (Txt.split z " ").length ≤ N + 1 := by
      have h1 := TX.sp_most 32 (TL.tl z) []
      rw [← TX.split_tl z eq_blank (by decide), List.length_map, ← TL.len_tl] at h1
      omega
    have pb := (box_ne B3 np).symm
    dsimp only
    generalize Txt.split z " " = ys at x4 B4 e4 hw n1 n2 ⊢
    generalize upd G3 p (HO.lst (ys.map V.str)) = G4 at x4 B4 e4 ⊢
    refine ⟨_, rfl, _, rfl, p, _, rfl, .inl (SqL.of e4), b, _, _, rfl, B4, by omega, by rw [List.length_map]; omega, by rw [List.length_map]; omega, fun spot G5 sp0 _ B5 k5 => ?_⟩
    have x5 : SX b G3 G5 := x4.trans (.of_eq k5)
    have e5 : G5 p = some (.lst (ys.map V.str)) := by rw [k5 _ pb]; exact e4
    have B6 : Box G5 b (n + 6) := B5.le (by omega)
    have bl : (" " : Str).length = 1 := by decide +kernel
    have cut := fun lo hi => TX.cut_tok tz lo hi
    have addOk : ∀ {a c : Str} {n m : Nat}, TX.Tok a n → TX.Tok c m → n + m ≤ 100000 → a.length + c.length ≤ sizeLine := fun {a c n m} h k l => by
      have := h.1; have := k.1
      rw [sizeLine_eq]; omega
    refine ⟨_, rfl, rfl, _, rfl, ite2 (fun _ => ?_) (fun _ => ?_)⟩
    · refine ⟨_, rfl, ?_⟩
      dsimp only [tNoPart]
      refine ⟨_, rfl, _, rfl, z, rfl, zs, _, rfl, _, _, rfl, rfl, addOk (cut _ _) tc (by omega), ?_⟩
      refine ⟨_, rfl, _, rfl, _, rfl, ?_⟩
      dsimp only [tNoPart]
      refine ⟨z, rfl, zs, _, _, rfl, rfl, addOk (TX.cat_tok (cut _ _) tc) (cut _ _) (by omega), ?_⟩
      exact fin _ _ ((TX.cat_tok (TX.cat_tok (cut _ _) tc) (cut _ _)).le (by omega)) x5 B6
    refine ⟨_, rfl, rfl, _, rfl, ite2 (fun _ => ?_) (fun _ => ?_)⟩
    · refine ⟨_, rfl, ?_⟩
      dsimp only [tNoPart]
      refine ⟨_, rfl, _, rfl, z, rfl, zs, _, rfl, _, rfl, _, 1, rfl, rfl, _, rfl, ?_⟩
      dsimp only [tNoPart]
      refine ⟨z, rfl, zs, _, _, rfl, rfl, addOk (cut _ _) (cut _ _) (by omega), ?_⟩
      exact fin _ _ ((TX.cat_tok (cut _ _) (cut _ _)).le (by omega)) x5 B6
    refine ⟨_, rfl, rfl, _, rfl, ite2 (fun _ => ?_) (fun _ => ?_)⟩
    · refine ⟨_, rfl, ?_⟩
      dsimp only [tNoPart]
      refine ⟨_, rfl, _, rfl, z, rfl, zs, _, rfl, _, _, rfl, rfl, addOk (cut _ _) tc (by omega), ?_⟩
      refine ⟨_, rfl, _, rfl, _, 1, rfl, rfl, _, rfl, ?_⟩
      dsimp only [tNoPart]
      refine ⟨z, rfl, zs, _, _, rfl, rfl, addOk (TX.cat_tok (cut _ _) tc) (cut _ _) (by omega), ?_⟩
      exact fin _ _ ((TX.cat_tok (TX.cat_tok (cut _ _) tc) (cut _ _)).le (by omega)) x5 B6
    refine ⟨_, rfl, rfl, _, rfl, ite2 (fun _ => ?_) (fun _ => ?_)⟩
    · refine ⟨_, rfl, ?_⟩
      dsimp only [tNoPart]
      refine ⟨_, rfl, _, rfl, z, rfl, zs, _, rfl, _, rfl, _, rfl, _, rfl, _, 2, rfl, rfl, _, rfl, z, rfl, zs, _, rfl, by rw [sizeLine_eq]; have := (cut (some at_) (some (at_ + 2))).1; omega, fun y ly hy => ?_⟩
      have ty : TX.Tok y N := ⟨Nat.le_trans ly (cut _ _).1, fun c hc => (cut _ _).2 c (hy c hc)⟩
      refine ⟨_, _, rfl, rfl, addOk (cut _ _) ty (by omega), _, rfl, _, rfl, _, 2, rfl, rfl, _, rfl, ?_⟩
      dsimp only [tNoPart]
      refine ⟨z, rfl, zs, _, _, rfl, rfl, addOk (TX.cat_tok (cut _ _) ty) (cut _ _) (by omega), ?_⟩
      exact fin _ _ ((TX.cat_tok (TX.cat_tok (cut _ _) ty) (cut _ _)).le (by omega)) x5 B6
    -- by words
    have cat : ∀ {G : Hp} {p1 p2 : Addr} {xs ys : List Str} {n m : Nat}, TX.Wds xs n → TX.Wds ys m → n + m ≤ 3 * N + 100 → (xs.map V.str).length + (ys.map V.str).length ≤ sizeLine := fun {G p1 p2 xs ys n m} h k l => by
      have lw : ∀ l : List Str, l.length ≤ (l.map fun y => y.length + 1).sum := fun l => by
        induction l with
        | nil => exact Nat.le_refl _
        | cons a l ih => rw [List.map_cons, List.sum_cons, List.length_cons]; omega
      have h1 := lw xs; have h2 := lw ys; have h3 := h.1; have h4 := k.1
      rw [List.length_map, List.length_map, sizeLine_eq]
      omega
    refine ⟨_, rfl, rfl, _, rfl, ite2 (fun _ => ?_) (fun _ => ?_)⟩
    · refine ⟨⟨_, rfl⟩, _, rfl, ?_⟩
      dsimp only [tNoPart]
      refine ⟨_, rfl, _, rfl, p, _, rfl, SqL.of e5, fun p1 np1 => ?_⟩
      obtain ⟨as, ea, sa⟩ := TX.cut_strs ys none (some spot)
      rw [ea]
      refine ⟨_, rfl, _, rfl, _, 1, rfl, rfl, _, rfl, ?_⟩
      dsimp only [tNoPart]
      refine ⟨p, _, rfl, SqL.of (same_upd np1 _ _ e5), fun p2 np2 => ?_⟩
      obtain ⟨cs, ec, sc⟩ := TX.cut_strs ys (some (spot + 1)) none
      rw [ec]
      refine ⟨p1, p2, _, _, rfl, rfl, same_upd np2 _ _ upd_same, upd_same, cat (G := G5) (p1 := p1) (p2 := p2) (hw.sub sa) (hw.sub sc) (by omega), fun p3 np3 => ?_⟩
      obtain ⟨tj, sj⟩ := TX.join_wds eq_blank ((hw.sub sa).app (hw.sub sc))
      refine ⟨" ", p3, as ++ cs, rfl, rfl, .inl (SqL.of (by rw [upd_same, List.map_append])), by omega, fin _ _ (tj.le (by omega)) (((x5.new np1).new np2).new np3) (((B6.new np1).new np2).new np3)⟩
    refine ⟨_, rfl, rfl, _, rfl, ite2 (fun _ => ?_) (fun _ => ?_)⟩
    · refine ⟨⟨_, rfl⟩, _, rfl, ?_⟩
      dsimp only [tNoPart]
      refine ⟨_, rfl, _, 1, rfl, rfl, _, rfl, p, _, rfl, SqL.of e5, fun p1 np1 => ?_⟩
      obtain ⟨as, ea, sa⟩ := TX.cut_strs ys none (some (spot + 1))
      rw [ea]
      refine ⟨_, rfl, _, rfl, _, rfl, ?_⟩
      dsimp only [tNoPart]
      refine ⟨p, _, rfl, SqL.of (same_upd np1 _ _ e5), fun p2 np2 => ?_⟩
      obtain ⟨cs, ec, sc⟩ := TX.cut_strs ys (some spot) none
      rw [ec]
      refine ⟨p1, p2, _, _, rfl, rfl, same_upd np2 _ _ upd_same, upd_same, cat (G := G5) (p1 := p1) (p2 := p2) (hw.sub sa) (hw.sub sc) (by omega), fun p3 np3 => ?_⟩
      obtain ⟨tj, sj⟩ := TX.join_wds eq_blank ((hw.sub sa).app (hw.sub sc))
      refine ⟨" ", p3, as ++ cs, rfl, rfl, .inl (SqL.of (by rw [upd_same, List.map_append])), by omega, fin _ _ (tj.le (by omega)) (((x5.new np1).new np2).new np3) (((B6.new np1).new np2).new np3)⟩
    -- another word
    refine ⟨"9", 30, rfl, rfl, by decide, by decide, by decide +kernel, by decide +kernel, ?_⟩
    refine ⟨"0", 29, rfl, rfl, by decide, by decide, by decide +kernel, by decide +kernel, "1", _, rfl, rfl, by decide +kernel, ?_⟩
    refine ⟨"0", 30, rfl, rfl, by decide, by decide, by decide +kernel, by decide +kernel, "1", _, rfl, rfl, by decide +kernel, ?_⟩
    refine ⟨"9", 30, rfl, rfl, by decide, by decide, by decide +kernel, by decide +kernel, "0>11*", _, rfl, rfl, by decide +kernel, by show 10 ≤ sizeLine; decide, fun l nl => ?_⟩
    have x6 : SX b G3 _ := x5.new (o := .lst [.str (repText "9" (30 : Int).toNat), .str ("1" ++ repText "0" (29 : Int).toNat), .str ("1" ++ repText "0" (30 : Int).toNat), .str "007", .str "0", .str "11>0*0", .str "12>0*1", .str "3>3*1", .str ("0>11*" ++ repText "9" (30 : Int).toNat), .str ""]) nl
    have e6 := same_upd (o := .lst [.str (repText "9" (30 : Int).toNat), .str ("1" ++ repText "0" (29 : Int).toNat), .str ("1" ++ repText "0" (30 : Int).toNat), .str "007", .str "0", .str "11>0*0", .str "12>0*1", .str "3>3*1", .str ("0>11*" ++ repText "9" (30 : Int).toNat), .str ""]) nl _ _ e5
    have B7 := B5.new (o := .lst [.str (repText "9" (30 : Int).toNat), .str ("1" ++ repText "0" (29 : Int).toNat), .str ("1" ++ repText "0" (30 : Int).toNat), .str "007", .str "0", .str "11>0*0", .str "12>0*1", .str "3>3*1", .str ("0>11*" ++ repText "9" (30 : Int).toNat), .str ""]) nl
    have e7 : upd G5 l (.lst [.str (repText "9" (30 : Int).toNat), .str ("1" ++ repText "0" (29 : Int).toNat), .str ("1" ++ repText "0" (30 : Int).toNat), .str "007", .str "0", .str "11>0*0", .str "12>0*1", .str "3>3*1", .str ("0>11*" ++ repText "9" (30 : Int).toNat), .str ""]) l = some (.lst (([repText "9" (30 : Int).toNat, "1" ++ repText "0" (29 : Int).toNat, "1" ++ repText "0" (30 : Int).toNat, "007", "0", "11>0*0", "12>0*1", "3>3*1", "0>11*" ++ repText "9" (30 : Int).toNat, ""] : List Str).map V.str)) := upd_same
    have bl' := box_ne B5 nl
    generalize upd G5 l _ = G6 at x6 e6 B7 e7 ⊢
    have toks : ∀ y ∈ ([repText "9" (30 : Int).toNat, "1" ++ repText "0" (29 : Int).toNat, "1" ++ repText "0" (30 : Int).toNat, "007", "0", "11>0*0", "12>0*1", "3>3*1", "0>11*" ++ repText "9" (30 : Int).toNat, ""] : List Str), y.length ≤ 40 ∧ ∀ c ∈ TL.tl y, c < 1114112 := by decide +kernel
    have lotsL : ([repText "9" (30 : Int).toNat, "1" ++ repText "0" (29 : Int).toNat, "1" ++ repText "0" (30 : Int).toNat, "007", "0", "11>0*0", "12>0*1", "3>3*1", "0>11*" ++ repText "9" (30 : Int).toNat, ""] : List Str).length = 10 := rfl
    generalize ([repText "9" (30 : Int).toNat, "1" ++ repText "0" (29 : Int).toNat, "1" ++ repText "0" (30 : Int).toNat, "007", "0", "11>0*0", "12>0*1", "3>3*1", "0>11*" ++ repText "9" (30 : Int).toNat, ""] : List Str) = lots at e7 toks lotsL
    refine ⟨⟨_, rfl⟩, _, rfl, ?_⟩
    dsimp only [tNoPart]
    refine ⟨_, rfl, _, rfl, p, _, rfl, SqL.of e6, fun p1 np1 => ?_⟩
    obtain ⟨as, ea, sa⟩ := TX.cut_strs ys none (some spot)
    rw [ea]
    have x8 := x6.new (o := .lst (as.map V.str)) np1
    have B8 := B7.new (o := .lst (as.map V.str)) np1
    have f8 : upd G6 p1 (.lst (as.map V.str)) p1 = some (.lst (as.map V.str)) := upd_same
    have e8 := same_upd (o := .lst (as.map V.str)) np1 _ _ e6
    have l8 := same_upd (o := .lst (as.map V.str)) np1 _ _ e7
    have bp1 := box_ne B7 np1
    generalize upd G6 p1 (HO.lst (as.map V.str)) = G8 at x8 B8 f8 e8 l8 ⊢
    refine ⟨_, rfl, _, rfl, b, l, _, lots.map V.str, rfl, B8, by omega, l8, bl', by rw [List.length_map]; omega, by rw [List.length_map]; omega, fun x G9 hx B9 k9 => ?_⟩
    obtain ⟨y, hy, rfl⟩ := List.mem_map.mp hx
    have ty : TX.Tok y 40 := toks y hy
    have x9 : SX b G3 G9 := x8.trans (.of_eq k9)
    have f9 : G9 p1 = .some (.lst (as.map V.str)) := by rw [k9 _ bp1.symm]; exact f8
    have e9 : G9 p = .some (.lst (ys.map V.str)) := by rw [k9 _ pb]; exact e8
    refine ⟨by show 1 ≤ sizeLine; decide, fun p2 np2 => ?_⟩
    refine ⟨p1, p2, _, _, rfl, rfl, same_upd np2 _ _ f9, upd_same, cat (G := G5) (p1 := p1) (p2 := p2) (ys := [y]) (hw.sub sa) (TX.Wds.one ty) (by omega), fun p3 np3 => ?_⟩
    have e10 := same_upd (o := .lst (as.map V.str ++ [V.str y])) np3 _ _ (same_upd (o := .lst [V.str y]) np2 _ _ e9)
    have f10 : upd (upd G9 p2 (.lst [V.str y])) p3 (.lst (as.map V.str ++ [V.str y])) p3 = .some (.lst ((as ++ [y]).map V.str)) := by rw [upd_same, List.map_append]; rfl
    have x10 := (x9.new (o := .lst [V.str y]) np2).new (o := .lst (as.map V.str ++ [V.str y])) np3
    have B10 := (B9.new (o := .lst [V.str y]) np2).new (o := .lst (as.map V.str ++ [V.str y])) np3
    generalize upd (upd G9 p2 (HO.lst [V.str y])) p3 (HO.lst (as.map V.str ++ [V.str y])) = G10 at e10 f10 x10 B10 ⊢
    have wa := (hw.sub sa).app (TX.Wds.one ty)
    refine ⟨_, rfl, _, rfl, _, rfl, rfl, .inr ⟨_, rfl, _, _, rfl, rfl, _, rfl, ?_⟩⟩
    dsimp only [tNoPart]
    refine ⟨p, _, rfl, SqL.of e10, fun p4 np4 => ?_⟩
    obtain ⟨cs, ec, sc⟩ := TX.cut_strs ys (.some (spot + if decide (V.int lot = V.int 6) = true then 1 else 0)) none
    rw [ec]
    refine ⟨p3, p4, _, _, rfl, rfl, same_upd np4 _ _ f10, upd_same, cat (G := G5) (p1 := p1) (p2 := p2) wa (hw.sub sc) (by omega), fun p5 np5 => ?_⟩
    obtain ⟨tj, sj⟩ := TX.join_wds eq_blank (wa.app (hw.sub sc))
    refine ⟨" ", p5, as ++ [y] ++ cs, rfl, rfl, .inl (SqL.of (by rw [upd_same, ← List.map_append])), by omega, fin _ _ (tj.le (by omega)) ((x10.new np4).new np5) (((B10.new np4).new np5).le (by omega))⟩
def spTh : Sp := fun vs H Q _ => ∃ (b : Addr) (z : Str) (n : Nat), vs = [.ref b, .str z] ∧ Box H b n ∧ n ≤ 900000 ∧ ∀ (x : V) (d : PyData) H', Dd H' x d → isStrD d = false → SX b H H' → Box H' b (n + 1) → Q x H'
theorem ok_th {f fT fO : Addr} {fd fdT fdO : FuncData} {k : Nat} (F : Fun K "_law_thing" "_law_thing" sTh f fd)
    (FT : Fun K "_law_take" "_law_take" sTake fT fdT) (bT : Binds K fdT ["_law_box_here", "_law_many"] []) (gT : mg "_law_take" = some (.ref fT))
    (FO : Fun K "_law_of" "_law_of" sOf fO fdO) (bO : Binds K fdO ["_law_box_here", "_law_some"] []) (gO : mg "_law_of" = some (.ref fO)) (m_len : mg "len" = none) : FnOk P w K mg base CX0 (k + 3) f fd ["_law_box_here", "_law_text"] spTh := by
  have GO : FnOk P w K mg base CX0 (k + 2) fO fdO ["_law_box_here", "_law_some"] spOf := ok_of FO FT bT gT m_len
  refine F.ok scTh (fun vs H Q E h => ?_) (fun cdv A outer s H vs Q E hr h => ?_)
  · obtain ⟨b, z, n, rfl, _⟩ := h
    rfl
  · obtain ⟨b, z, n, rfl, hB, hn, want⟩ := h
    have hr2 := hr
    refine ⟨_, pss_cons (ps_set (i := 2) scTh.nd rfl (.inl rfl) (pe_lst (pa_cons pe_non (pa_cons pe_bl (pa_cons pe_int (pa_cons pe_int (pa_cons (pe_tup pa_nil) (pa_cons (pe_lst pa_nil) (pa_cons (pe_dnewK) (pa_cons (pe_tup (pa_cons pe_int (pa_cons pe_int pa_nil))) (pa_cons (pe_tup (pa_cons (pv 1) pa_nil)) (pa_cons (pe_lst (pa_cons (pv 1) pa_nil)) (pa_cons (pe_tup (pa_cons (pe_tup (pa_cons pe_int (pa_cons pe_int (pa_cons pe_int pa_nil)))) pa_nil)) (pa_cons (pe_disp (pps_cons (pv 1) pe_int pps_nil) (by rfl) (by rfl) (fun z => by cases z) (by decide)) pa_nil))))))))))))))
      (pss_one (ps_ret (pe_call GO hr2 (by rfl) gO FO.kp bO .nil pass0 (pa_cons (pv 0) (pa_cons (pv 2) pa_nil))))), ?_⟩
    refine ⟨by show 0 ≤ sizeLine; decide, fun t1 n1 => ?_⟩
    have x1 := SX.new (o := .tup []) (SX.refl b H) n1
    have B1 := Box.new (o := .tup []) hB n1
    have f1_1 : upd H t1 (.tup []) t1 = some (.tup []) := upd_same
    generalize upd H t1 (HO.tup []) = G1 at x1 B1 f1_1 ⊢
    refine ⟨by show 0 ≤ sizeLine; decide, fun t2 n2 => ?_⟩
    have x2 := SX.new (o := .lst []) (x1) n2
    have B2 := Box.new (o := .lst []) B1 n2
    have f2_2 : upd G1 t2 (.lst []) t2 = some (.lst []) := upd_same
    have f1_2 := same_upd (o := .lst []) n2 _ _ f1_1
    generalize upd G1 t2 (HO.lst []) = G2 at x2 B2 f1_2 f2_2 ⊢
    intro t3 n3
    have x3 := SX.new (o := .dK []) (x2) n3
    have B3 := Box.new (o := .dK []) B2 n3
    have f3_3 : upd G2 t3 (.dK []) t3 = some (.dK []) := upd_same
    have f1_3 := same_upd (o := .dK []) n3 _ _ f1_2
    have f2_3 := same_upd (o := .dK []) n3 _ _ f2_2
    generalize upd G2 t3 (HO.dK []) = G3 at x3 B3 f1_3 f2_3 f3_3 ⊢
    refine ⟨by show 2 ≤ sizeLine; decide, fun t4 n4 => ?_⟩
    have x4 := SX.new (o := .tup [.int 1, .int 2]) (x3) n4
    have B4 := Box.new (o := .tup [.int 1, .int 2]) B3 n4
    have f4_4 : upd G3 t4 (.tup [.int 1, .int 2]) t4 = some (.tup [.int 1, .int 2]) := upd_same
    have f1_4 := same_upd (o := .tup [.int 1, .int 2]) n4 _ _ f1_3
    have f2_4 := same_upd (o := .tup [.int 1, .int 2]) n4 _ _ f2_3
    have f3_4 := same_upd (o := .tup [.int 1, .int 2]) n4 _ _ f3_3
    generalize upd G3 t4 (HO.tup [.int 1, .int 2]) = G4 at x4 B4 f1_4 f2_4 f3_4 f4_4 ⊢
    refine ⟨_, rfl, by show 1 ≤ sizeLine; decide, fun t5 n5 => ?_⟩
    have x5 := SX.new (o := .tup [.str z]) (x4) n5
    have B5 := Box.new (o := .tup [.str z]) B4 n5
    have f5_5 : upd G4 t5 (.tup [.str z]) t5 = some (.tup [.str z]) := upd_same
    have f1_5 := same_upd (o := .tup [.str z]) n5 _ _ f1_4
    have f2_5 := same_upd (o := .tup [.str z]) n5 _ _ f2_4
    have f3_5 := same_upd (o := .tup [.str z]) n5 _ _ f3_4
    have f4_5 := same_upd (o := .tup [.str z]) n5 _ _ f4_4
    generalize upd G4 t5 (HO.tup [.str z]) = G5 at x5 B5 f1_5 f2_5 f3_5 f4_5 f5_5 ⊢
    refine ⟨_, rfl, by show 1 ≤ sizeLine; decide, fun t6 n6 => ?_⟩
    have x6 := SX.new (o := .lst [.str z]) (x5) n6
    have B6 := Box.new (o := .lst [.str z]) B5 n6
    have f6_6 : upd G5 t6 (.lst [.str z]) t6 = some (.lst [.str z]) := upd_same
    have f1_6 := same_upd (o := .lst [.str z]) n6 _ _ f1_5
    have f2_6 := same_upd (o := .lst [.str z]) n6 _ _ f2_5
    have f3_6 := same_upd (o := .lst [.str z]) n6 _ _ f3_5
    have f4_6 := same_upd (o := .lst [.str z]) n6 _ _ f4_5
    have f5_6 := same_upd (o := .lst [.str z]) n6 _ _ f5_5
    generalize upd G5 t6 (HO.lst [.str z]) = G6 at x6 B6 f1_6 f2_6 f3_6 f4_6 f5_6 f6_6 ⊢
    refine ⟨by show 3 ≤ sizeLine; decide, fun t7 n7 => ?_⟩
    have x7 := SX.new (o := .tup [.int 0, .int 1, .int 2]) (x6) n7
    have B7 := Box.new (o := .tup [.int 0, .int 1, .int 2]) B6 n7
    have f7_7 : upd G6 t7 (.tup [.int 0, .int 1, .int 2]) t7 = some (.tup [.int 0, .int 1, .int 2]) := upd_same
    have f1_7 := same_upd (o := .tup [.int 0, .int 1, .int 2]) n7 _ _ f1_6
    have f2_7 := same_upd (o := .tup [.int 0, .int 1, .int 2]) n7 _ _ f2_6
    have f3_7 := same_upd (o := .tup [.int 0, .int 1, .int 2]) n7 _ _ f3_6
    have f4_7 := same_upd (o := .tup [.int 0, .int 1, .int 2]) n7 _ _ f4_6
    have f5_7 := same_upd (o := .tup [.int 0, .int 1, .int 2]) n7 _ _ f5_6
    have f6_7 := same_upd (o := .tup [.int 0, .int 1, .int 2]) n7 _ _ f6_6
    generalize upd G6 t7 (HO.tup [.int 0, .int 1, .int 2]) = G7 at x7 B7 f1_7 f2_7 f3_7 f4_7 f5_7 f6_7 f7_7 ⊢
    refine ⟨by show 1 ≤ sizeLine; decide, fun t8 n8 => ?_⟩
    have x8 := SX.new (o := .tup [.ref t7]) (x7) n8
    have B8 := Box.new (o := .tup [.ref t7]) B7 n8
    have f8_8 : upd G7 t8 (.tup [.ref t7]) t8 = some (.tup [.ref t7]) := upd_same
    have f1_8 := same_upd (o := .tup [.ref t7]) n8 _ _ f1_7
    have f2_8 := same_upd (o := .tup [.ref t7]) n8 _ _ f2_7
    have f3_8 := same_upd (o := .tup [.ref t7]) n8 _ _ f3_7
    have f4_8 := same_upd (o := .tup [.ref t7]) n8 _ _ f4_7
    have f5_8 := same_upd (o := .tup [.ref t7]) n8 _ _ f5_7
    have f6_8 := same_upd (o := .tup [.ref t7]) n8 _ _ f6_7
    have f7_8 := same_upd (o := .tup [.ref t7]) n8 _ _ f7_7
    generalize upd G7 t8 (HO.tup [.ref t7]) = G8 at x8 B8 f1_8 f2_8 f3_8 f4_8 f5_8 f6_8 f7_8 f8_8 ⊢
    intro t9 n9
    have x9 := SX.new (o := .dK []) (x8) n9
    have B9 := Box.new (o := .dK []) B8 n9
    have f9_9 : upd G8 t9 (.dK []) t9 = some (.dK []) := upd_same
    have f1_9 := same_upd (o := .dK []) n9 _ _ f1_8
    have f2_9 := same_upd (o := .dK []) n9 _ _ f2_8
    have f3_9 := same_upd (o := .dK []) n9 _ _ f3_8
    have f4_9 := same_upd (o := .dK []) n9 _ _ f4_8
    have f5_9 := same_upd (o := .dK []) n9 _ _ f5_8
    have f6_9 := same_upd (o := .dK []) n9 _ _ f6_8
    have f7_9 := same_upd (o := .dK []) n9 _ _ f7_8
    have f8_9 := same_upd (o := .dK []) n9 _ _ f8_8
    generalize upd G8 t9 (HO.dK []) = G9 at x9 B9 f1_9 f2_9 f3_9 f4_9 f5_9 f6_9 f7_9 f8_9 f9_9 ⊢
    refine ⟨_, rfl, f9_9, [(.inr z, .int 1)], rfl, by show 1 ≤ 15; decide, ?_⟩
    have bt9 : b ≠ t9 := box_ne B8 n9
    have h9 : H t9 = none := by
      cases h : H t9 with
      | none => rfl
      | some o => have := x8 t9 o bt9.symm h; rw [n9] at this; cases this
    have x10 := x9.set (o := .dK (mergeK [] [(.inr z, .int 1)])) h9
    have B10 := B9.set (o := .dK (mergeK [] [(.inr z, .int 1)])) bt9
    have f9_10 : upd G9 t9 (.dK (mergeK [] [(.inr z, .int 1)])) t9 = some (.dK [(.inr z, .int 1)]) := upd_same
    have f1_10 : upd G9 t9 (.dK (mergeK [] [(.inr z, .int 1)])) t1 = some (.tup []) := by rw [upd_ne (ne_of_none f1_8 n9)]; exact f1_9
    have f2_10 : upd G9 t9 (.dK (mergeK [] [(.inr z, .int 1)])) t2 = some (.lst []) := by rw [upd_ne (ne_of_none f2_8 n9)]; exact f2_9
    have f4_10 : upd G9 t9 (.dK (mergeK [] [(.inr z, .int 1)])) t4 = some (.tup [.int 1, .int 2]) := by rw [upd_ne (ne_of_none f4_8 n9)]; exact f4_9
    have f5_10 : upd G9 t9 (.dK (mergeK [] [(.inr z, .int 1)])) t5 = some (.tup [.str z]) := by rw [upd_ne (ne_of_none f5_8 n9)]; exact f5_9
    have f6_10 : upd G9 t9 (.dK (mergeK [] [(.inr z, .int 1)])) t6 = some (.lst [.str z]) := by rw [upd_ne (ne_of_none f6_8 n9)]; exact f6_9
    have f7_10 : upd G9 t9 (.dK (mergeK [] [(.inr z, .int 1)])) t7 = some (.tup [.int 0, .int 1, .int 2]) := by rw [upd_ne (ne_of_none f7_8 n9)]; exact f7_9
    have f8_10 : upd G9 t9 (.dK (mergeK [] [(.inr z, .int 1)])) t8 = some (.tup [.ref t7]) := by rw [upd_ne (ne_of_none f8_8 n9)]; exact f8_9
    have f3_10 : upd G9 t9 (.dK (mergeK [] [(.inr z, .int 1)])) t3 = some (.dK []) := by rw [upd_ne (ne_of_none f3_8 n9)]; exact f3_9
    generalize upd G9 t9 (.dK (mergeK [] [(.inr z, .int 1)])) = G10 at x10 B10 f9_10 f1_10 f2_10 f3_10 f4_10 f5_10 f6_10 f7_10 f8_10 ⊢
    refine ⟨by show 12 ≤ sizeLine; decide, fun l nl => ?_⟩
    refine ⟨_, rfl, _, rfl, b, l, _, _, rfl, B10.new nl, by omega, upd_same, box_ne B10 nl, by show 1 ≤ 12; decide, by show 12 ≤ 1000; decide, fun x G hx B k => ?_⟩
    have xG : SX b H G := (x10.new nl).trans (.of_eq k)
    have kt : ∀ a o, H a = none → G10 a = some o → G a = some o := fun a o ha h => by
      have nb : a ≠ b := fun e => by
        obtain ⟨o', e'⟩ := hB.get
        rw [e, e'] at ha
        cases ha
      rw [k a nb]
      exact same_upd nl _ _ h
    have fresh : ∀ {a : Addr} {K1 : Hp}, SX b H K1 → (∃ m, Box K1 b m) → K1 a = none → H a = none := fun {a K1} x bx h => by
      obtain ⟨m, bx⟩ := bx
      exact x.free bx h
    have g1 := kt _ _ n1 f1_10
    have g2 := kt _ _ (fresh x1 ⟨_, B1⟩ n2) f2_10
    have g3 := kt _ _ (fresh x2 ⟨_, B2⟩ n3) f3_10
    have g4 := kt _ _ (fresh x3 ⟨_, B3⟩ n4) f4_10
    have g5 := kt _ _ (fresh x4 ⟨_, B4⟩ n5) f5_10
    have g6 := kt _ _ (fresh x5 ⟨_, B5⟩ n6) f6_10
    have g7 := kt _ _ (fresh x6 ⟨_, B6⟩ n7) f7_10
    have g8 := kt _ _ (fresh x7 ⟨_, B7⟩ n8) f8_10
    have g9 := kt _ _ h9 f9_10
    have tell : ∀ (x : V) (d : PyData), Dd G x d → isStrD d = false → Q x G := fun x d h e => want x d G h e xG B
    simp only [List.mem_cons, List.not_mem_nil, or_false] at hx
    rcases hx with h | h | h | h | h | h | h | h | h | h | h | h <;> rw [h]
    · exact tell _ _ .non rfl
    · exact tell _ _ (.bl _) rfl
    · exact tell _ _ (.int _) rfl
    · exact tell _ _ (.int _) rfl
    · exact tell _ _ (.tup g1 .nil) rfl
    · exact tell _ _ (.lst g2 .nil) rfl
    · exact tell _ _ (.dic g3 .nil) rfl
    · exact tell _ _ (.tup g4 (.cons (.int _) (.cons (.int _) .nil))) rfl
    · exact tell _ _ (.tup g5 (.cons (.str _) .nil)) rfl
    · exact tell _ _ (.lst g6 (.cons (.str _) .nil)) rfl
    · exact tell _ _ (.tup g8 (.cons (.tup g7 (.cons (.int _) (.cons (.int _) (.cons (.int _) .nil)))) .nil)) rfl
    · exact tell _ _ (.dic g9 (.cons (.int _) .nil)) rfl
end
end K61

namespace K61
open PySem PySem.Spec PyProof.Rows L2 MG LamX
abbrev sSaid : Stmt := topS 29
abbrev nSaid : List Str := ["_law_deed", "_law_told", "_law_caught", "e", "_law_kinds", "_law_kind"]
theorem scSaid : FnScope ["_law_deed", "_law_told", "_law_caught", "e", "_law_kinds", "_law_kind"] ["_law_deed"] (defScope sSaid) := ⟨rfl, rfl, rfl, by decide +kernel, rfl, by decide +kernel, by decide +kernel⟩
/-- the own classes, by the order of their words -/
structure Eight (K : PySem.W.Frag) (mg : Str → Option Value) (CG D0 D1 D2 D3 D4 D5 D6 D7 : Addr) : Prop where
  gG : mg "GiftError" = some (.ref CG)
  g0 : mg "NoRow" = some (.ref D0)
  g1 : mg "NoDeed" = some (.ref D1)
  g2 : mg "TooGreat" = some (.ref D2)
  g3 : mg "TooFew" = some (.ref D3)
  g4 : mg "NoBack" = some (.ref D4)
  g5 : mg "NoName" = some (.ref D5)
  g6 : mg "NoText" = some (.ref D6)
  g7 : mg "NoLine" = some (.ref D7)
/-- a class that is the n-th of them -/
structure IsKind (K : PySem.W.Frag) (CG D0 D1 D2 D3 D4 D5 D6 D7 : Addr) (n : Nat) (C : Addr) : Prop where
  lt : n < 8
  exm : PySem.W.exmOne K (.ref C) (.ref CG) = some true
  own : ExcC K C
  val : PySem.W.kitOne K (.ref C) (.type "ValueError") = some true
  k0 : PySem.W.kitOne K (.ref C) (.ref D0) = some (decide (n = 0))
  k1 : PySem.W.kitOne K (.ref C) (.ref D1) = some (decide (n = 1))
  k2 : PySem.W.kitOne K (.ref C) (.ref D2) = some (decide (n = 2))
  k3 : PySem.W.kitOne K (.ref C) (.ref D3) = some (decide (n = 3))
  k4 : PySem.W.kitOne K (.ref C) (.ref D4) = some (decide (n = 4))
  k5 : PySem.W.kitOne K (.ref C) (.ref D5) = some (decide (n = 5))
  k6 : PySem.W.kitOne K (.ref C) (.ref D6) = some (decide (n = 6))
  k7 : PySem.W.kitOne K (.ref C) (.ref D7) = some (decide (n = 7))
def word (n : Nat) : Str := (["row", "deed", "great", "few", "back", "name", "text", "line"] : List Str).getD n ""
def kinds (n : Nat) : List Bool := [decide (n = 0), decide (n = 1), decide (n = 2), decide (n = 3), decide (n = 4), decide (n = 5), decide (n = 6), decide (n = 7)]
theorem kinds_sum : ∀ n, n < 8 → ((kinds n).map fun b => if b = true then (1 : Int) else 0).sum = 1 := by decide
theorem kinds_at : ∀ n, n < 8 → (kinds n)[n]? = some true := by decide
theorem kinds_no : ∀ n, n < 8 → ∀ m, m < n → (kinds n)[m]? = some false := by decide
theorem kinds_len (n : Nat) : (kinds n).length = 8 := rfl
theorem len6 {α : Type} {l : List α} (h : l.length = 6) : ∃ a b c d e f, l = [a, b, c, d, e, f] := by
  match l, h with
  | [a, b, c, d, e, f], _ => exact ⟨a, b, c, d, e, f, rfl⟩
theorem words_at : ∀ n, n < 8 → ([V.str "row", .str "deed", .str "great", .str "few", .str "back", .str "name", .str "text", .str "line"] : List V)[n]? = some (V.str (word n)) := by
  intro n h
  match n, h with
  | 0, _ => rfl
  | 1, _ => rfl
  | 2, _ => rfl
  | 3, _ => rfl
  | 4, _ => rfl
  | 5, _ => rfl
  | 6, _ => rfl
  | 7, _ => rfl
/-- told: what the lambda tells beside a word, or by which class it is refused -/
def TSaid (K : PySem.W.Frag) (CG D0 D1 D2 D3 D4 D5 D6 D7 : Addr) : (XK → Hp → VK → Prop) → Hp → VK → Prop := fun tl H Q => ∀ (H1 : Hp) (Q' : VK), Same H H1 →
  (∀ v H', (∀ t H'', Same H' H'' → H' t = none → H'' t = some (.tup [.str "told", v]) → Q (.ref t) H'') → Q' v H') →
  tl (fun cls d H' => ∃ (n : Nat) (C : Addr), cls = .ref C ∧ d = none ∧ IsKind K CG D0 D1 D2 D3 D4 D5 D6 D7 n C ∧ ∀ t H'', Same H' H'' → H'' t = some (.tup [.str "refused", .str (word n)]) → Q (.ref t) H'') H1 Q'
theorem said_gives {X : Cx} {g CG D0 D1 D2 D3 D4 D5 D6 D7 : Addr} {cdg : Value} {q : Str} (C8 : Eight X.K X.mg CG D0 D1 D2 D3 D4 D5 D6 D7) (mi : X.mg "isinstance" = none) (mV : X.mg "ValueError" = none) (mS : X.mg "sum" = none) (mI : X.mg "int" = none) :
    GivesTo X nSaid "_law_said" (defScope sSaid) g cdg (defBody sSaid) "_law_deed" q (TSaid X.K CG D0 D1 D2 D3 D4 D5 D6 D7) := by
  intro f c' s H Q tl act hc h
  refine ⟨_, pss_cons (ps_asg (pe_tup (pa_cons pe_non (pa_cons pe_non pa_nil))) (pg_tup rfl (pgs_cons (pg_name (i := 1) scSaid.nd rfl (.inl rfl)) (pgs_cons (pg_name (i := 2) scSaid.nd rfl (.inl rfl)) pgs_nil))))
    (pss_cons (ps_try_keep (c := .ref CG) (i := 3)
        (tb := fun W D σ H => ∃ Ech : XK, (∀ (cls : Value) (d : Option Addr) (σ' : L2.St) (H' : Hp), Ech cls d H' → σ'.length = 6 → W cls d σ' H') ∧ σ[0]? = some (some (.ref f)) ∧ H c' = some (CodeO c' q) ∧ tl Ech H (fun v H' => D.nx (σ.set 1 (some v)) H'))
        rfl rfl rfl scSaid.nd rfl rfl ⟨by rfl, by decide, .inl C8.gG⟩ (fun W pn xe tk _ => ⟨fun pins s' σ H' D I h' => ?_⟩) (fun a oe cls pn _ _ => pss_one (ps_set (i := 2) scSaid.nd rfl (.inl rfl) (pv 3))))
    (pss_cons (ps_if (pt_cmpR op_isN (pv 2) pe_non (nomark _)) (pss_one (ps_ret (pe_tup (pa_cons pe_str (pa_cons (pv 1) pa_nil))))) pss_nil)
    (pss_cons (ps_set (i := 4) scSaid.nd rfl (.inl rfl) (pe_lst (pa_cons (pe_callB call_isO (by rfl) mi (by decide +kernel) (pa_cons (pv 2) (pa_cons (pe_glob (v := .ref D0) (by rfl) C8.g0 rfl) pa_nil))) (pa_cons (pe_callB call_isO (by rfl) mi (by decide +kernel) (pa_cons (pv 2) (pa_cons (pe_glob (v := .ref D1) (by rfl) C8.g1 rfl) pa_nil))) (pa_cons (pe_callB call_isO (by rfl) mi (by decide +kernel) (pa_cons (pv 2) (pa_cons (pe_glob (v := .ref D2) (by rfl) C8.g2 rfl) pa_nil))) pa_nil)))))
    (pss_cons (ps_set (i := 4) scSaid.nd rfl (.inl rfl) (pe_op op_cat (pv 4) (pe_lst (pa_cons (pe_callB call_isO (by rfl) mi (by decide +kernel) (pa_cons (pv 2) (pa_cons (pe_glob (v := .ref D3) (by rfl) C8.g3 rfl) pa_nil))) (pa_cons (pe_callB call_isO (by rfl) mi (by decide +kernel) (pa_cons (pv 2) (pa_cons (pe_glob (v := .ref D4) (by rfl) C8.g4 rfl) pa_nil))) (pa_cons (pe_callB call_isO (by rfl) mi (by decide +kernel) (pa_cons (pv 2) (pa_cons (pe_glob (v := .ref D5) (by rfl) C8.g5 rfl) pa_nil))) pa_nil))))))
    (pss_cons (ps_set (i := 4) scSaid.nd rfl (.inl rfl) (pe_op op_cat (pv 4) (pe_lst (pa_cons (pe_callB call_isO (by rfl) mi (by decide +kernel) (pa_cons (pv 2) (pa_cons (pe_glob (v := .ref D6) (by rfl) C8.g6 rfl) pa_nil))) (pa_cons (pe_callB call_isO (by rfl) mi (by decide +kernel) (pa_cons (pv 2) (pa_cons (pe_glob (v := .ref D7) (by rfl) C8.g7 rfl) pa_nil))) pa_nil)))))
    (pss_cons (ps_if (PW.pt (pw_or (pt_not (pt_val (pe_callB call_isO (by rfl) mi (by decide +kernel) (pa_cons (pv 2) (pa_cons (pe_bltn (v := .ty "ValueError") (by rfl) mV (by decide +kernel) rfl) pa_nil))))) (pw_or1 (pt_cmpR op_ne (pe_callB (cr_sum rfl) (by rfl) mS (by decide +kernel) (pa_cons (pe_lc (own := [("_law_kind", 5)]) (g := gName 5) (tt := tYes) rfl scSaid.nd (pi_list (pv 4)) (blkOk_by (N := nSaid) (sc := defScope sSaid) (by decide +kernel)) (fun _ _ _ _ _ => pg_name (i := 5) scSaid.nd rfl (Or.inl rfl)) (fun _ _ _ _ _ => pts_nil) (fun _ _ _ _ _ => pe_callTy call_int1 (by rfl) mI (by decide +kernel) (pa_cons (pv 5) pa_nil))) pa_nil)) pe_int (nomark _))))) (pss_one (ps_ret (pe_tup (pa_cons pe_str (pa_cons pe_non pa_nil))))) pss_nil)
    (pss_one (ps_ret (pe_tup (pa_cons pe_str (pa_cons (pe_ix ix_list (pe_lst (pa_cons pe_str (pa_cons pe_str (pa_cons pe_str (pa_cons pe_str (pa_cons pe_str (pa_cons pe_str (pa_cons pe_str (pa_cons pe_str pa_nil))))))))) (pe_bm PySem.F.plainAttrs_list PySem.F.slot_list_index PySem.F.type_list_index mt_index (pv 4) (pa_cons pe_bl pa_nil)) (fun _ _ => rfl)) pa_nil))))))))))), ?_⟩
  · obtain ⟨Ech, hW, h1, h2, h3⟩ := h'
    have hp := fun p1 p2 => act _ pn xe Ech p1 p2 (takes_len tk) hW
    exact (pss_one (ps_set (i := 1) scSaid.nd rfl (.inl rfl) (hp _ _))).run pins s' σ H' D I ⟨h1, h2, h3⟩
  · refine ⟨by show 2 ≤ sizeLine; decide, fun p np => ?_⟩
    have s1 : Same H (upd H p (.tup [.non, .non])) := same_upd np
    have e1 : upd H p (.tup [.non, .non]) p = some (.tup [.non, .non]) := upd_same
    have h1 := fun Q' => h _ Q' s1
    have hc1 := s1 _ _ hc
    generalize upd H p (HO.tup [.non, .non]) = H1 at s1 e1 h1 hc1 ⊢
    refine ⟨p, [.non, .non], rfl, .inl (.inl e1), rfl, .non, [.non], rfl, .non, [], rfl, rfl, _, ?_, rfl, hc1, h1 _ fun v H' q => ?_⟩
    rotate_left
    · refine ⟨_, rfl, rfl, _, rfl, iteT ⟨_, rfl, by show 2 ≤ sizeLine; decide, fun t nt => ?_⟩⟩
      exact q t _ (same_upd nt) nt upd_same
    · rintro cls d σ' H' ⟨n, C, rfl, rfl, k, q⟩ l6
      obtain ⟨s0, sl1, s2, s3, s4, s5, rfl⟩ := len6 l6
      refine ⟨rfl, k.exm, fun a na => ⟨.ref a, rfl, fun _ => ?_⟩⟩
      have sa : Same H' (upd H' a (ExI (.ref C) a)) := fun c o e => by rw [upd_ne (ne_of_none e na)]; exact e
      have ea : upd H' a (ExI (.ref C) a) a = some (ExI (.ref C) a) := upd_same
      generalize upd H' a (ExI (.ref C) a) = H2 at sa ea ⊢
      refine ⟨_, rfl, rfl, _, rfl, ?_⟩
      refine iteF ⟨_, rfl, _, _, _, _, _, rfl, .own D0, .exc k.own ea, k.k0, _, rfl, _, _, _, _, _, rfl, .own D1, .exc k.own ea, k.k1, _, rfl, _, _, _, _, _, rfl, .own D2, .exc k.own ea, k.k2, by show 3 ≤ sizeLine; decide, fun l1 n1 => ?_⟩
      have t1 : Same H2 (upd H2 l1 (.lst [.bl (decide (n = 0)), .bl (decide (n = 1)), .bl (decide (n = 2))])) := same_upd n1
      have f1 : upd H2 l1 (.lst [.bl (decide (n = 0)), .bl (decide (n = 1)), .bl (decide (n = 2))]) l1 = some (.lst [.bl (decide (n = 0)), .bl (decide (n = 1)), .bl (decide (n = 2))]) := upd_same
      have ea1 := t1 _ _ ea
      generalize upd H2 l1 (HO.lst [.bl (decide (n = 0)), .bl (decide (n = 1)), .bl (decide (n = 2))]) = H3 at t1 f1 ea1 ⊢
      refine ⟨_, rfl, _, rfl, _, _, _, _, _, rfl, .own D3, .exc k.own ea1, k.k3, _, rfl, _, _, _, _, _, rfl, .own D4, .exc k.own ea1, k.k4, _, rfl, _, _, _, _, _, rfl, .own D5, .exc k.own ea1, k.k5, by show 3 ≤ sizeLine; decide, fun l2 n2 => ?_⟩
      have t2 : Same H3 (upd H3 l2 (.lst [.bl (decide (n = 3)), .bl (decide (n = 4)), .bl (decide (n = 5))])) := same_upd n2
      refine ⟨l1, l2, _, _, rfl, rfl, t2 _ _ f1, upd_same, by show 6 ≤ sizeLine; decide, fun l3 n3 => ?_⟩
      have t3 := t2.trans (same_upd (o := .lst ([.bl (decide (n = 0)), .bl (decide (n = 1)), .bl (decide (n = 2))] ++ [.bl (decide (n = 3)), .bl (decide (n = 4)), .bl (decide (n = 5))])) n3)
      have f3 : upd (upd H3 l2 (.lst [.bl (decide (n = 3)), .bl (decide (n = 4)), .bl (decide (n = 5))])) l3 (.lst ([.bl (decide (n = 0)), .bl (decide (n = 1)), .bl (decide (n = 2))] ++ [.bl (decide (n = 3)), .bl (decide (n = 4)), .bl (decide (n = 5))])) l3 = some (.lst ([.bl (decide (n = 0)), .bl (decide (n = 1)), .bl (decide (n = 2))] ++ [.bl (decide (n = 3)), .bl (decide (n = 4)), .bl (decide (n = 5))])) := upd_same
      have ea3 := t3 _ _ ea1
      generalize upd (upd H3 l2 (.lst [.bl (decide (n = 3)), .bl (decide (n = 4)), .bl (decide (n = 5))])) l3 (HO.lst ([.bl (decide (n = 0)), .bl (decide (n = 1)), .bl (decide (n = 2))] ++ [.bl (decide (n = 3)), .bl (decide (n = 4)), .bl (decide (n = 5))])) = H4 at t3 f3 ea3 ⊢
      refine ⟨_, rfl, _, rfl, _, _, _, _, _, rfl, .own D6, .exc k.own ea3, k.k6, _, rfl, _, _, _, _, _, rfl, .own D7, .exc k.own ea3, k.k7, by show 2 ≤ sizeLine; decide, fun l4 n4 => ?_⟩
      have t4 : Same H4 (upd H4 l4 (.lst [.bl (decide (n = 6)), .bl (decide (n = 7))])) := same_upd n4
      refine ⟨l3, l4, _, _, rfl, rfl, t4 _ _ f3, upd_same, by show 8 ≤ sizeLine; decide, fun l5 n5 => ?_⟩
      have t5 := t4.trans (same_upd (o := .lst ([.bl (decide (n = 0)), .bl (decide (n = 1)), .bl (decide (n = 2))] ++ [.bl (decide (n = 3)), .bl (decide (n = 4)), .bl (decide (n = 5))] ++ [.bl (decide (n = 6)), .bl (decide (n = 7))])) n5)
      have f5 : upd (upd H4 l4 (.lst [.bl (decide (n = 6)), .bl (decide (n = 7))])) l5 (.lst ([.bl (decide (n = 0)), .bl (decide (n = 1)), .bl (decide (n = 2))] ++ [.bl (decide (n = 3)), .bl (decide (n = 4)), .bl (decide (n = 5))] ++ [.bl (decide (n = 6)), .bl (decide (n = 7))])) l5 = some (.lst ((kinds n).map V.bl)) := upd_same
      have ea5 := t5 _ _ ea3
      generalize upd (upd H4 l4 (.lst [.bl (decide (n = 6)), .bl (decide (n = 7))])) l5 (HO.lst ([.bl (decide (n = 0)), .bl (decide (n = 1)), .bl (decide (n = 2))] ++ [.bl (decide (n = 3)), .bl (decide (n = 4)), .bl (decide (n = 5))] ++ [.bl (decide (n = 6)), .bl (decide (n = 7))])) = H5 at t5 f5 ea5 ⊢
      refine ⟨_, rfl, _, _, _, _, _, rfl, .ty "ValueError", .exc k.own ea5, k.val, _, rfl, iteF ?_⟩
      refine ⟨_, rfl, l5, rfl, ⟨_, SqL.of f5⟩, fun D nD => ?_⟩
      refine lc_list (K := X.K) (a := l5) (xs := (kinds n).map V.bl) (fun m G => Same H5 G ∧ G D = some (.lst ((((kinds n).take m).map fun b => if b = true then (1 : Int) else 0).map V.int))) ⟨same_upd nD, upd_same⟩ ?_ ?_ ?_
      · rintro m G _ ⟨sm, _⟩
        exact SqL.of (sm _ _ f5)
      · rintro m u G hu ⟨sm, hD⟩
        rw [List.getElem?_map] at hu
        obtain ⟨b, hb, rfl⟩ := Option.map_eq_some_iff.mp hu
        refine ⟨rfl, _, rfl, .inr ⟨b, rfl, _, hD, ?_, fun c o e => ?_, ?_⟩⟩
        · rw [List.length_map, List.length_map, List.length_take, kinds_len, sizeLine_eq]; omega
        · rw [upd_ne (ne_of_none e nD)]; exact sm c o e
        · rw [upd_same, List.take_add_one, hb, List.map_append, List.map_append]
          rfl
      rintro G ⟨sm, hD⟩
      rw [List.length_map, List.take_length] at hD
      refine ⟨D, _, rfl, SqL.of hD, rfl, _, rfl, ?_⟩
      rw [kinds_sum n k.lt]
      refine iteF ?_
      refine ⟨by show 8 ≤ sizeLine; decide, fun l6 n6 => ?_⟩
      have t6 := same_upd (o := .lst [V.str "row", .str "deed", .str "great", .str "few", .str "back", .str "name", .str "text", .str "line"]) n6
      have f6 := t6 _ _ (sm _ _ f5)
      refine ⟨_, rfl, .inl ⟨rfl, _, SqL.of f6⟩, l5, _, .bl true, n, .bl true, rfl, rfl, SqL.of f6, rfl, ?_, ?_, ?_, ?_, ?_⟩
      · rw [List.all_eq_true]
        intro v hv
        obtain ⟨b, _, rfl⟩ := List.mem_map.mp hv
        rfl
      · rw [List.getElem?_map, kinds_at n k.lt]; rfl
      · rfl
      · intro m z hm hz
        rw [List.getElem?_map, kinds_no n k.lt m hm] at hz
        rw [← Option.some.inj hz]
        rfl
      · refine ⟨l6, _, (n : Int), .str (word n), rfl, rfl, SqL.of upd_same, atI_nat (words_at n k.lt), by show 2 ≤ sizeLine; decide, fun t nt => ?_⟩
        exact q t _ (sa.trans (t1.trans (t3.trans (t5.trans (sm.trans (t6.trans (same_upd nt))))))) upd_same
end K61

namespace K61
open PySem PySem.Spec PyProof.Rows L2 MG LamX
/-- the state of a law whose defs make lambdas: all but the box and the tables stays, the tables are sound, the box is one -/
structure St (b : Addr) (T : List (Addr × Str)) (H0 H : Hp) (N : Nat) : Prop where
  x : SXN b H0 H
  T : Tabs T H
  B : Box H b N
section
variable {b : Addr} {T : List (Addr × Str)} {H0 H H' : Hp} {N N' : Nat}
theorem St.start (t : Tabs T H) (B : Box H b N) : St b T H H N := ⟨.refl b H, t, B⟩
theorem St.at (r : St b T H0 H N) : ∃ o, H b = Option.some o := by
  obtain ⟨_, _, _, e, _⟩ := r.B
  exact ⟨_, e⟩
theorem St.same (r : St b T H0 H N) (s : Same H H') : St b T H0 H' N := by
  obtain ⟨o, e⟩ := r.at
  exact ⟨r.x.trans (.of fun a o _ h => s a o h), r.T.ext s, r.B.at (by rw [s _ _ e, e])⟩
theorem St.new {t : Addr} {o : HO} (r : St b T H0 H N) (n : H t = none) : St b T H0 (upd H t o) N := r.same (same_upd n)
theorem St.sx (r : St b T H0 H N) (s : SX b H H') (B : Box H' b N') : St b T H0 H' N' := by
  obtain ⟨o, m, c, e, _⟩ := id r.B
  exact ⟨r.x.trans (.of s), tabsOff r.T e s, B⟩
theorem St.draw (r : St b T H0 H N) (B : Box H' b N') (k : ∀ a, a ≠ b → H' a = H a) : St b T H0 H' N' := r.sx (fun a o n h => by rw [k a n]; exact h) B
theorem St.ext (r : St b T H0 H N) (z : ExtN H H') (t : Tabs T H') : St b T H0 H' N := by
  obtain ⟨o, m, c, e, _⟩ := id r.B
  exact ⟨r.x.trans (.ofExt z), t, r.B.at (by rw [extLst z e, e])⟩
theorem St.le (r : St b T H0 H N) (h : N ≤ N') : St b T H0 H N' := ⟨r.x, r.T, r.B.le h⟩
theorem St.ne {q : Addr} (r : St b T H0 H N) (n : H q = none) : b ≠ q := by
  obtain ⟨o, e⟩ := r.at
  exact ne_of_none e n
/-- a list that came up since the start is written -/
theorem St.put {H1 : Hp} {N1 : Nat} {D : Addr} {xs : List V} {o : HO} (r1 : St b T H0 H1 N1) (n1 : H1 D = none) (r : St b T H0 H N) (e : H D = Option.some (.lst xs)) : St b T H0 (upd H D o) N := by
  refine ⟨fun a u n h z => ?_, tabsOff r.T e (fun a u n h => by rw [upd_ne n]; exact h), r.B.at (upd_ne (r1.ne n1))⟩
  rw [upd_ne (ne_of_none (r1.x a u n h z) n1)]
  exact r.x a u n h z
end
theorem ext_seq {K : PySem.W.Frag} {H H' : Hp} {a : Addr} {xs : List V} (e : ExtN H H') (h : SqL K H a xs) : SqL K H' a xs := by
  rcases h with (h | ⟨o, h⟩) | h
  · exact .inl (.inl (e a _ h fun ps z => nomatch z))
  · exact .inl (.inr ⟨o, e a _ h fun ps z => nomatch z⟩)
  · exact .inr h
end K61

namespace K61
open PySem PySem.Spec PyProof.Rows L2 MG LamX
abbrev sRd : Stmt := topS 41
abbrev nRd : List Str := ["_law_thing_here", "_law_text", "_law_row", "_law_plan_here", "_law_due"]
theorem scRd : FnScope ["_law_thing_here", "_law_text", "_law_row", "_law_plan_here", "_law_due"] ["_law_thing_here"] (defScope sRd) := ⟨rfl, rfl, rfl, by decide +kernel, rfl, by decide +kernel, by decide +kernel⟩
abbrev TW (PQ : Addr) : List (Addr × Str) := [(PQ, "_law_read_right.<locals>.<lambda>")]
/-- what a reading tells, or None -/
def rowR : Option (List Nat) → PyData
  | none => .none
  | some ns => .tuple ((ns.map fun (n : Nat) => (n : Int)).map PyData.int)
def planR : Option (List Run3) → PyData
  | none => .none
  | some rs => .tuple ((rs.map some).map oDt)
def dueD : PyData → PyData
  | .none => .tuple [.str "refused", .str "text"]
  | d => .tuple [.str "told", d]
theorem runs_dd {H : Hp} {ts : List Addr} {rs : List Run3} (h : RunsAt H ts rs) : DdAll H (ts.map V.ref) ((rs.map some).map oDt) := by
  induction rs generalizing ts with
  | nil =>
    obtain ⟨l, _⟩ := h
    cases ts with
    | nil => exact .nil
    | cons a b => cases l
  | cons r rs ih =>
    cases ts with
    | nil => cases h.1
    | cons t ts =>
      refine .cons (.tup (h.2 0 t r rfl rfl) (.cons (.int _) (.cons (.int _) (.cons (.int _) .nil)))) (ih ⟨by have := h.1; simpa using this, fun i t' r' a b => h.2 (i + 1) t' r' a b⟩)
theorem dd_tup {H : Hp} {v : V} {ds : List PyData} (h : Dd H v (.tuple ds)) : ∃ p, v = .ref p := by cases h with | tup e _ => exact ⟨_, rfl⟩
theorem row_sh {l : List Nat} {ns : List Nat} (h : TX.rowT l = some ns) : Sh 1 (40 * 303 + 3) (rowR (some ns)) := by
  unfold TX.rowT at h
  cases e : TX.allN ((TX.sp 32 [] l).map TX.numW) with
  | none => rw [e] at h; cases h
  | some ms =>
    rw [e] at h
    dsimp only at h
    by_cases hc : ms.length ≤ 12 ∧ 0 < ms.sum ∧ ms.sum < 10 ^ 30
    · rw [if_pos hc] at h
      cases h
      refine Sh.row (fun i hi => ?_) (by rw [List.length_map]; omega)
      obtain ⟨n, hn, rfl⟩ := List.mem_map.mp hi
      have h1 := TX.mem_sumN hn
      have h2 : (n : Int) < 10 ^ 30 := by
        have : n < 10 ^ 30 := by omega
        exact_mod_cast this
      exact ⟨Int.natCast_nonneg n, Int.lt_trans h2 (by decide)⟩
    · rw [if_neg hc] at h; cases h
theorem run_sh {l : List Nat} {r : Run3} (h : TX.runT l = some r) : Sh 1 (3 * 303 + 3) (oDt (some r)) := by
  have key : r.1 < 12 ∧ r.2.1 < 12 ∧ r.2.2 < 10 ^ 30 := by
    unfold TX.runT at h
    split at h
    · split at h
      · obtain ⟨i, j, k⟩ := r
        obtain ⟨_, _, h3, _, h5, h6⟩ := TX.three_some h
        exact ⟨h5, h6, (TX.numW_some h3).2.2.1⟩
      · cases h
    · cases h
  refine Sh.tup (c := 301) (m := 3) (fun d hd => ?_) (Nat.le_refl 3)
  simp only [List.mem_cons, List.not_mem_nil, or_false] at hd
  rcases hd with rfl | rfl | rfl
  · exact Sh.int (by rw [Int.natAbs_natCast]; exact Nat.lt_trans key.1 (by decide))
  · exact Sh.int (by rw [Int.natAbs_natCast]; exact Nat.lt_trans key.2.1 (by decide))
  · exact Sh.int (by rw [Int.natAbs_natCast]; exact Nat.lt_trans key.2.2 (by decide))
theorem plan_sh {l : List Nat} {rs : List Run3} (h : TX.planT l = some rs) (hl : l.length ≤ 8000) : Sh 2 (8001 * 914 + 3) (planR (some rs)) := by
  unfold TX.planT at h
  have key : rs.length ≤ 8001 ∧ ∀ r ∈ rs, ∃ l, TX.runT l = some r := by
    by_cases hc : TX.sp 32 [] l = [[45]]
    · rw [if_pos hc] at h; cases h
      exact ⟨Nat.zero_le _, fun r hr => nomatch hr⟩
    · rw [if_neg hc] at h
      have e := TX.allN_some.mp h
      have h1 := congrArg List.length e
      rw [List.length_map, List.length_map] at h1
      have h2 := TX.sp_most 32 l []
      refine ⟨by omega, fun r hr => ?_⟩
      have : some r ∈ (TX.sp 32 [] l).map TX.runT := by rw [e]; exact List.mem_map_of_mem hr
      obtain ⟨w, _, hw⟩ := List.mem_map.mp this
      exact ⟨w, hw⟩
  refine Sh.tup (c := 3 * 303 + 3) (m := 8001) (fun d hd => ?_) (by rw [List.length_map, List.length_map]; exact key.1)
  obtain ⟨o, ho, rfl⟩ := List.mem_map.mp hd
  obtain ⟨r, hr, rfl⟩ := List.mem_map.mp ho
  obtain ⟨l, hl⟩ := key.2 r hr
  exact run_sh hl
theorem due_sh {d : PyData} (h : Sh 2 (8001 * 914 + 3) d) : (dueD d).showable = true ∧ (dueD d).depth ≤ 60 ∧ (dueD d).shown.length ≤ sizeLine := by
  have fin : ∀ {ds : List PyData}, ds.length ≤ 2 → (∀ z ∈ ds, Sh 2 (8001 * 914 + 3) z) → (PyData.tuple ds).showable = true ∧ (PyData.tuple ds).depth ≤ 60 ∧ (PyData.tuple ds).shown.length ≤ sizeLine := fun hl h => by
    have := Sh.tup h hl
    exact ⟨this.1, by have := this.2.1; omega, by have := this.2.2; rw [sizeLine_eq]; omega⟩
  have word : ∀ {x : Str}, (reprText x).length ≤ 40 → Sh 2 (8001 * 914 + 3) (.str x) := fun h => (Sh.str _ h).le (by omega) (by omega)
  have two : ∀ {a b : PyData}, Sh 2 (8001 * 914 + 3) a → Sh 2 (8001 * 914 + 3) b → ∀ z ∈ [a, b], Sh 2 (8001 * 914 + 3) z := fun ha hb z hz => by
    simp only [List.mem_cons, List.not_mem_nil, or_false] at hz
    rcases hz with rfl | rfl
    · exact ha
    · exact hb
  cases d with
  | none => exact fin (Nat.le_refl 2) (two (word (by decide +kernel)) (word (by decide +kernel)))
  | _ => exact fin (Nat.le_refl 2) (two (word (by decide +kernel)) h)
section
variable {P : Program} {w : World} {K : PySem.W.Frag} {mg : Str → Option Value} {base : Heap}
theorem sub_ok {cx : CXT} {k : Nat} {f : Addr} {fd : FuncData} {ps : List Str} {sp sp' : Sp} (F : FnOk P w K mg base cx k f fd ps sp) (h : ∀ vs H Q E, sp' vs H Q E → sp vs H Q E) : FnOk P w K mg base cx k f fd ps sp' :=
  ⟨fun vs H Q E s => F.len vs H Q E (h _ _ _ _ s), fun A outer s H args us vs Q E a b c d e => F.run A outer s H args us vs Q E a b c d (h _ _ _ _ e)⟩
def spRoD : Sp := fun vs H Q _ => ∃ z : Str, vs = [.str z] ∧ z.length ≤ 8000 ∧ ∀ v H', Same H H' → Dd H' v (rowR (TX.rowT (TL.tl z))) → Q v H'
def spPoD : Sp := fun vs H Q _ => ∃ z : Str, vs = [.str z] ∧ z.length ≤ 8000 ∧ ∀ v H', Same H H' → Dd H' v (planR (TX.planT (TL.tl z))) → Q v H'
theorem row_dd {H : Hp} {p : Addr} {ns : List Nat} (e : H p = some (.tup (intsV ns))) : Dd H (.ref p) (rowR (some ns)) := .tup e (by rw [intsV_eq]; exact ddIntsG _)
theorem ro_d {k : Nat} {f : Addr} {fd : FuncData} (F : FnOk P w K mg base CX0 k f fd ["_law_text"] spRo) : FnOk P w K mg base CX0 k f fd ["_law_text"] spRoD := by
  refine sub_ok F fun vs H Q E h => ?_
  obtain ⟨z, rfl, l, q⟩ := h
  refine ⟨z, rfl, by omega, fun ns e p H' s ep => q _ H' s (by rw [e]; exact row_dd ep), fun e H' s => q _ H' s (by rw [e]; exact .non)⟩
theorem po_d {k : Nat} {f : Addr} {fd : FuncData} (F : FnOk P w K mg base CX0 k f fd ["_law_text"] spPo) : FnOk P w K mg base CX0 k f fd ["_law_text"] spPoD := by
  refine sub_ok F fun vs H Q E h => ?_
  obtain ⟨z, rfl, l, q⟩ := h
  refine ⟨z, rfl, by omega, fun rs e p H' ts s ep hr => q _ H' s (by rw [e]; exact .tup ep (runs_dd hr)), fun e H' s => q _ H' s (by rw [e]; exact .non)⟩
theorem ite_var {b : Bool} {x : V} {y : Str} {σ : L2.St} {i : Nat} {H : Hp} {q : V → Hp → Prop} (hx : σ[i]? = some (some x)) (h : if b = true then x = .str y else y = "") (g : q (.str y) H) : if b = true then tVar i σ H q else tC (.str "") σ H q := by
  cases b with
  | true =>
    have h : x = .str y := h
    rw [h] at hx
    exact iteT ⟨_, hx, g⟩
  | false =>
    have h : y = "" := h
    rw [h] at g
    exact iteF g
/-- reads what the thing says: as the text y, or as nothing -/
def spRrD (NT : Addr) : Sp := fun vs H Q E => ∃ (x : V) (d : PyData) (y : Str), vs = [x] ∧ Dd H x d ∧ (∀ z, d = .str z → z = y) ∧ (isStrD d = false → TX.rowT (TL.tl y) = none) ∧ y.length ≤ 8000 ∧
  (∀ v ds H', Same H H' → rowR (TX.rowT (TL.tl y)) = .tuple ds → Dd H' v (.tuple ds) → Q v H') ∧ (rowR (TX.rowT (TL.tl y)) = .none → ∀ H', Same H H' → E (.ref NT) none H')
def spRpD (NT : Addr) : Sp := fun vs H Q E => ∃ (x : V) (d : PyData) (y : Str), vs = [x] ∧ Dd H x d ∧ (∀ z, d = .str z → z = y) ∧ (isStrD d = false → TX.planT (TL.tl y) = none) ∧ y.length ≤ 8000 ∧ (∀ c ∈ TL.tl y, c < 1114112) ∧
  (∀ v ds H', Same H H' → planR (TX.planT (TL.tl y)) = .tuple ds → Dd H' v (.tuple ds) → Q v H') ∧ (planR (TX.planT (TL.tl y)) = .none → ∀ H', Same H H' → E (.ref NT) none H')
theorem rr_d {NT : Addr} {k : Nat} {f : Addr} {fd : FuncData} (F : FnOk P w K mg base (L2.CX P w) k f fd ["text"] (spRr NT)) : FnOk P w K mg base (L2.CX P w) k f fd ["text"] (spRrD NT) := by
  refine sub_ok F fun vs H Q E h => ?_
  obtain ⟨x, d, y, rfl, dd, hS, hN, ly, q, r⟩ := h
  refine ⟨x, d, rfl, dd, fun z e => ?_, fun e => r (by rw [hN e]; rfl)⟩
  cases hS z e
  exact ⟨by omega, fun ns e p H' s _ ep => q _ _ H' s (by rw [e]; rfl) (row_dd ep), fun e => r (by rw [e]; rfl)⟩
theorem rp_d {NT : Addr} {k : Nat} {f : Addr} {fd : FuncData} (F : FnOk P w K mg base (L2.CX P w) k f fd ["text"] (spRp NT)) : FnOk P w K mg base (L2.CX P w) k f fd ["text"] (spRpD NT) := by
  refine sub_ok F fun vs H Q E h => ?_
  obtain ⟨x, d, y, rfl, dd, hS, hN, ly, ty, q, r⟩ := h
  refine ⟨x, d, rfl, dd, fun z e => ?_, fun e => r (by rw [hN e]; rfl)⟩
  cases hS z e
  exact ⟨by omega, ty, fun rs e p H' ts s ep hr => q _ _ H' s (by rw [e]; rfl) (.tup ep (runs_dd hr)), fun e => r (by rw [e]; rfl)⟩
theorem ext_trans {H H1 H2 : Hp} (a : ExtN H H1) (b : ExtN H1 H2) : ExtN H H2 := fun c o h n => b c o (a c o h n) n
def spRd (PQ : Addr) : Sp := fun vs H Q _ => ∃ (x : V) (d : PyData), vs = [x] ∧ Dd H x d ∧ (isStrD d = false ∨ ∃ z, d = .str z ∧ TX.Tok z 8000) ∧ Tabs (TW PQ) H ∧ ∀ H', ExtN H H' → Tabs (TW PQ) H' → Q (.bl true) H'
theorem ok_rd {f fRo fPo fSd fRr fRp cW PQ CG D0 D1 D2 D3 D4 D5 D6 D7 : Addr} {fd fdRo fdPo fdSd fdRr fdRp : FuncData} {k : Nat} (sys : SysD base) (F : Fun K "_law_read_right" "_law_read_right" sRd f fd) (code : fd.code = .ref cW) (TBW : TabB base mg cW PQ)
    (FRo : Fun K "_law_row_of" "_law_row_of" sRo fRo fdRo) (bRo : Binds K fdRo ["_law_text"] []) (gRo : mg "_law_row_of" = some (.ref fRo)) (GRo : FnOk P w K mg base CX0 (k + 2) fRo fdRo ["_law_text"] spRo)
    (FPo : Fun K "_law_plan_of" "_law_plan_of" sPo fPo fdPo) (bPo : Binds K fdPo ["_law_text"] []) (gPo : mg "_law_plan_of" = some (.ref fPo)) (GPo : FnOk P w K mg base CX0 (k + 3) fPo fdPo ["_law_text"] spPo)
    (FSd : Fun K "_law_said" "_law_said" sSaid fSd fdSd) (bSd : Binds K fdSd ["_law_deed"] []) (gSd : mg "_law_said" = some (.ref fSd)) (C8 : Eight K mg CG D0 D1 D2 D3 D4 D5 D6 D7) (KD : IsKind K CG D0 D1 D2 D3 D4 D5 D6 D7 6 D6)
    (FRr : Fun K "read_row" "read_row" sRr fRr fdRr) (bRr : Binds K fdRr ["text"] []) (gRr : mg "read_row" = some (.ref fRr)) (GRr : FnOk P w K mg base (L2.CX P w) (k + 4) fRr fdRr ["text"] (spRr D6))
    (FRp : Fun K "read_plan" "read_plan" sRp fRp fdRp) (bRp : Binds K fdRp ["text"] []) (gRp : mg "read_plan" = some (.ref fRp)) (GRp : FnOk P w K mg base (L2.CX P w) (k + 5) fRp fdRp ["text"] (spRp D6))
    (m_repr : mg "repr" = none) (m_sum : mg "sum" = none) (m_int : mg "int" = none) (m_str : mg "str" = none) (m_isinstance : mg "isinstance" = none) (m_ValueError : mg "ValueError" = none) :
    FnG P w K mg base (k + 8) f fd ["_law_thing_here"] (spRd PQ) := by
  have GRo := ro_d GRo
  have GPo := po_d GPo
  have GRr := rr_d GRr
  have GRp := rp_d GRp
  obtain ⟨ocSd, odSd, kVSd, docSd, pmSd, anSd, cdvSd, ctSd, oslSd, rfl, lkSd, cdSd⟩ := id FSd.ex
  refine okGC F code scRd (fun vs H Q E h => ?_) (fun A outer s H vs Q E gd hr h => ?_)
  · obtain ⟨x, d, rfl, _⟩ := h
    rfl
  · obtain ⟨x, d, rfl, dd, form, TH, want⟩ := h
    have hr3 := hr.mono (show k + 3 ≤ k + 7 by omega)
    have hr2 := hr.mono (show k + 2 ≤ k + 7 by omega)
    have uniqW : ∀ p ∈ TW PQ, p.1 = PQ → p.2 = "_law_read_right.<locals>.<lambda>" := fun p hp _ => by rw [List.mem_singleton.mp hp]
    have cr : ∀ {X : Cx}, X = (cxOf CX0 P w K mg base nRd "_law_read_right" (defScope sRd) f (.ref cW) A outer s H E).nox → CallR X (.builtin "repr") rRepr := by
      rintro X rfl
      exact call_repr gd (by have := hr.un; show (A.deeper _).units + 100 < cLine; omega) sys
    have R := cr rfl
    refine ⟨_, pss_cons (ps_set (i := 1) scRd.nd rfl (.inl rfl) (pe_ifExp (pt_val (pe_callB call_isi (by rfl) m_isinstance (by decide +kernel) (pa_cons (pv 0) (pa_cons (pe_bltn (v := .ty "str") (by rfl) m_str (by decide +kernel) rfl) pa_nil)))) (pv 0) pe_str))
      (pss_cons (ps_par (i := 2) (j := 3) rfl scRd.nd rfl rfl (by decide) rfl rfl (pa_cons (pe_call GRo hr2 (by rfl) gRo FRo.kp bRo .nil pass0 (pa_cons (pv 1) pa_nil)) (pa_cons (pe_call GPo hr3 (by rfl) gPo FPo.kp bPo .nil pass0 (pa_cons (pv 1) pa_nil)) pa_nil)) (by rfl))
      (pss_mid (ps_set (i := 4) scRd.nd rfl (.inl rfl) (pe_ifExp (pt_cmpR op_notN (pv 2) pe_non (nomark _)) (pe_tup (pa_cons pe_str (pa_cons (pv 2) pa_nil))) (pe_tup (pa_cons pe_str (pa_cons pe_str pa_nil)))))
      (pss_mid (ps_if (pt_cmpR op_ne (pe_callB R (by rfl) m_repr (by decide +kernel) (pa_cons (pe_lamcall (T := TW PQ) (TT := TSaid K CG D0 D1 D2 D3 D4 D5 D6 D7) (k := k + 5) (by rfl) gSd FSd.kp lkSd cdSd bSd scSaid rfl (.inl rfl) (said_gives C8 m_isinstance m_ValueError m_sum m_int) TBW rfl List.mem_cons_self uniqW hr (lamS_by (by rfl)) rfl (fun _ _ _ _ _ => rfl) (fun A outer s H E f c' hrL => pe_call GRr (hrL.mono (show k + 4 ≤ k + 5 by omega)) (by rfl) gRr FRr.kp bRr .nil (passes_call (takes_of rfl rfl rfl rfl) (fun _ _ _ _ h => h)) (pa_cons (pv 0) pa_nil))) pa_nil)) (pe_callB R (by rfl) m_repr (by decide +kernel) (pa_cons (pv 4) pa_nil)) (nomark _)) (pss_one (ps_ret pe_bl)) pss_nil)
      (pss_mid (ps_set (i := 4) scRd.nd rfl (.inl rfl) (pe_ifExp (pt_cmpR op_notN (pv 3) pe_non (nomark _)) (pe_tup (pa_cons pe_str (pa_cons (pv 3) pa_nil))) (pe_tup (pa_cons pe_str (pa_cons pe_str pa_nil)))))
      (pss_one (ps_ret (pe_cmpR op_eq (pe_callB R (by rfl) m_repr (by decide +kernel) (pa_cons (pe_lamcall (T := TW PQ) (TT := TSaid K CG D0 D1 D2 D3 D4 D5 D6 D7) (k := k + 5) (by rfl) gSd FSd.kp lkSd cdSd bSd scSaid rfl (.inl rfl) (said_gives C8 m_isinstance m_ValueError m_sum m_int) TBW rfl List.mem_cons_self uniqW hr (lamS_by (by rfl)) rfl (fun _ _ _ _ _ => rfl) (fun A outer s H E f c' hrL => pe_call GRp hrL (by rfl) gRp FRp.kp bRp .nil (passes_call (takes_of rfl rfl rfl rfl) (fun _ _ _ _ h => h)) (pa_cons (pv 0) pa_nil))) pa_nil)) (pe_callB R (by rfl) m_repr (by decide +kernel) (pa_cons (pv 4) pa_nil)) (nomark _)))))))), ?_⟩
    obtain ⟨y, ty, hS, hN, isY⟩ : ∃ y : Str, TX.Tok y 8000 ∧ (∀ z, d = .str z → z = y) ∧ (isStrD d = false → TX.rowT (TL.tl y) = none ∧ TX.planT (TL.tl y) = none) ∧ (if isStrD d = true then x = .str y else y = "") := by
      rcases form with h | ⟨z, rfl, tz⟩
      · refine ⟨"", ⟨by decide, by decide +kernel⟩, fun z e => (by rw [e] at h; cases h), fun _ => by decide +kernel, by rw [h]; rfl⟩
      · refine ⟨z, tz, fun z' e => (by cases e; rfl), fun h => (by cases h), ?_⟩
        cases dd
        rfl
    have ly : y.length ≤ 8000 := ty.1
    have rsh : Sh 2 (8001 * 914 + 3) (rowR (TX.rowT (TL.tl y))) := by
      cases e : TX.rowT (TL.tl y) with
      | none => exact Sh.none.le (by omega) (by omega)
      | some ns => exact (row_sh e).le (by omega) (by omega)
    have psh : Sh 2 (8001 * 914 + 3) (planR (TX.planT (TL.tl y))) := by
      cases e : TX.planT (TL.tl y) with
      | none => exact Sh.none.le (by omega) (by omega)
      | some rs => exact plan_sh e (by rw [← TL.len_tl]; exact ly)
    refine ⟨x, rfl, x, _, _, _, _, rfl, .ty "str", dd.ty, kit_str _ d, ?_⟩
    refine ⟨_, rfl, ?_⟩
    refine ite_var (i := 0) (σ := L2.start nRd [x]) rfl isY ?_
    refine ⟨_, rfl, y, rfl, ly, fun v2 H1 s1 d2 => ⟨_, rfl, y, rfl, ly, fun v3 H2 s2 d3 => ?_⟩⟩
    have kind : ∀ o : Option (List Nat), rowR o = .none ∨ ∃ ds, rowR o = .tuple ds := fun o => by
      cases o with
      | none => exact .inl rfl
      | some ns => exact .inr ⟨_, rfl⟩
    have kindP : ∀ o : Option (List Run3), planR o = .none ∨ ∃ ds, planR o = .tuple ds := fun o => by
      cases o with
      | none => exact .inl rfl
      | some ns => exact .inr ⟨_, rfl⟩
    have kR := kind (TX.rowT (TL.tl y))
    have kP := kindP (TX.planT (TL.tl y))
    have nR : isStrD d = false → TX.rowT (TL.tl y) = none := fun h => (hN h).1
    have nP : isStrD d = false → TX.planT (TL.tl y) = none := fun h => (hN h).2
    have d2 := d2.same s2
    refine ⟨_, _, rfl, fun σ G => ∃ t, σ = [some x, some (.str y), some v2, some v3, some (.ref t)] ∧ Same H G ∧ Dd G v3 (planR (TX.planT (TL.tl y))) ∧ Dd G (.ref t) (dueD (rowR (TX.rowT (TL.tl y)))), ?_, ?_⟩
    · rcases kR with e | ⟨ds, e⟩
      · rw [e] at d2
        cases d2
        refine ⟨_, rfl, rfl, _, rfl, iteNS rfl ⟨by show 2 ≤ sizeLine; decide, fun t nt => ⟨t, rfl, (s1.trans s2).trans (same_upd nt), d3.same (same_upd nt), ?_⟩⟩⟩
        rw [e]
        exact .tup upd_same (.cons (.str _) (.cons (.str _) .nil))
      · rw [e] at d2
        obtain ⟨p, rfl⟩ := dd_tup d2
        refine ⟨_, rfl, rfl, _, rfl, iteT ⟨_, rfl, by show 2 ≤ sizeLine; decide, fun t nt => ⟨t, rfl, (s1.trans s2).trans (same_upd nt), d3.same (same_upd nt), ?_⟩⟩⟩
        rw [e]
        exact .tup upd_same (.cons (.str _) (.cons (d2.same (same_upd nt)) .nil))
    rintro σ G ⟨t, rfl, sG, d3, dt⟩
    have TG := TH.ext sG
    have xG : ExtN H G := ext_same sG
    have dG := dd.same sG
    clear d2 s1 s2
    refine ⟨fun σ G' => σ = [some x, some (.str y), some v2, some v3, some (.ref t)] ∧ ExtN H G' ∧ Tabs (TW PQ) G' ∧ Dd G' x d ∧ Dd G' v3 (planR (TX.planT (TL.tl y))), ?_, ?_⟩
    · have sh := due_sh rsh
      refine ⟨TG, fun G1 z1 T1 G2 Q' g2 told => ?_⟩
      have keep : ∀ {G3 : Hp}, Same G2 G3 → ExtN G G3 := fun s => ext_trans z1 (ext_same (g2.trans s))
      have keepT : ∀ {G3 : Hp}, Same G2 G3 → Tabs (TW PQ) G3 := fun s => T1.ext (g2.trans s)
      have pack : ∀ {G3 : Hp}, Same G2 G3 → ExtN H G3 ∧ Tabs (TW PQ) G3 ∧ Dd G3 x d ∧ Dd G3 v3 (planR (TX.planT (TL.tl y))) := fun s => ⟨ext_trans xG (keep s), keepT s, dG.ext (keep s), d3.ext (keep s)⟩
      refine ⟨_, rfl, x, d, y, rfl, dG.ext (keep (.refl G2)), hS, nR, ly, fun v ds G3 g3 e dv => told _ _ fun t' G4 g4 n4 e4 => ?_, fun e G3 g3 => ⟨6, D6, rfl, rfl, KD, fun t' G4 g4 e4 => ?_⟩⟩
      · refine ⟨.ref t', dueD (rowR (TX.rowT (TL.tl y))), rfl, by rw [e]; exact .tup e4 (.cons (.str _) (.cons (dv.same g4) .nil)), sh.1, sh.2.1, sh.2.2, ?_⟩
        refine ⟨_, rfl, .ref t, dueD (rowR (TX.rowT (TL.tl y))), rfl, dt.ext (keep (g3.trans g4)), sh.1, sh.2.1, sh.2.2, ?_⟩
        exact ⟨rfl, _, rfl, iteNS rfl ⟨rfl, pack (g3.trans g4)⟩⟩
      · refine ⟨.ref t', dueD (rowR (TX.rowT (TL.tl y))), rfl, by rw [e]; exact .tup e4 (.cons (.str _) (.cons (.str _) .nil)), sh.1, sh.2.1, sh.2.2, ?_⟩
        refine ⟨_, rfl, .ref t, dueD (rowR (TX.rowT (TL.tl y))), rfl, dt.ext (keep (g3.trans g4)), sh.1, sh.2.1, sh.2.2, ?_⟩
        exact ⟨rfl, _, rfl, iteNS rfl ⟨rfl, pack (g3.trans g4)⟩⟩
    rintro σ G5 ⟨rfl, x5, T5, dd5, d5⟩
    clear dt TG xG dG sG d3
    refine ⟨fun σ G => ∃ t, σ = [some x, some (.str y), some v2, some v3, some (.ref t)] ∧ Same G5 G ∧ Dd G (.ref t) (dueD (planR (TX.planT (TL.tl y)))), ?_, ?_⟩
    · rcases kP with e | ⟨ds, e⟩
      · rw [e] at d5
        cases d5
        refine ⟨_, rfl, rfl, _, rfl, iteNS rfl ⟨by show 2 ≤ sizeLine; decide, fun t nt => ⟨t, rfl, same_upd nt, ?_⟩⟩⟩
        rw [e]
        exact .tup upd_same (.cons (.str _) (.cons (.str _) .nil))
      · rw [e] at d5
        obtain ⟨p, rfl⟩ := dd_tup d5
        refine ⟨_, rfl, rfl, _, rfl, iteT ⟨_, rfl, by show 2 ≤ sizeLine; decide, fun t nt => ⟨t, rfl, same_upd nt, ?_⟩⟩⟩
        rw [e]
        exact .tup upd_same (.cons (.str _) (.cons (d5.same (same_upd nt)) .nil))
    clear d5
    rintro σ G6 ⟨t6, rfl, s6, dt⟩
    have sh := due_sh psh
    have T6 := T5.ext s6
    have x6 : ExtN H G6 := ext_trans x5 (ext_same s6)
    have d6 := dd5.same s6
    refine ⟨T6, fun G1 z1 T1 G2 Q' g2 told => ?_⟩
    have keep : ∀ {G3 : Hp}, Same G2 G3 → ExtN G6 G3 := fun s => ext_trans z1 (ext_same (g2.trans s))
    have keepT : ∀ {G3 : Hp}, Same G2 G3 → Tabs (TW PQ) G3 := fun s => T1.ext (g2.trans s)
    have done : ∀ {G3 : Hp} (a : Str), Same G2 G3 → Q (.bl (decide (V.str a = V.str a))) G3 := fun a s => by
      rw [decide_eq_true rfl]
      exact want _ (ext_trans x6 (keep s)) (keepT s)
    refine ⟨_, rfl, x, d, y, rfl, d6.ext (keep (.refl G2)), hS, nP, ly, ty.2, fun v ds G3 g3 e dv => told _ _ fun t' G4 g4 n4 e4 => ?_, fun e G3 g3 => ⟨6, D6, rfl, rfl, KD, fun t' G4 g4 e4 => ?_⟩⟩
    · refine ⟨.ref t', dueD (planR (TX.planT (TL.tl y))), rfl, by rw [e]; exact .tup e4 (.cons (.str _) (.cons (dv.same g4) .nil)), sh.1, sh.2.1, sh.2.2, ?_⟩
      refine ⟨_, rfl, .ref t6, dueD (planR (TX.planT (TL.tl y))), rfl, dt.ext (keep (g3.trans g4)), sh.1, sh.2.1, sh.2.2, ?_⟩
      exact ⟨rfl, done _ (g3.trans g4)⟩
    · refine ⟨.ref t', dueD (planR (TX.planT (TL.tl y))), rfl, by rw [e]; exact .tup e4 (.cons (.str _) (.cons (.str _) .nil)), sh.1, sh.2.1, sh.2.2, ?_⟩
      refine ⟨_, rfl, .ref t6, dueD (planR (TX.planT (TL.tl y))), rfl, dt.ext (keep (g3.trans g4)), sh.1, sh.2.1, sh.2.2, ?_⟩
      exact ⟨rfl, done _ (g3.trans g4)⟩
end
end K61

namespace K61
open PySem PySem.Spec PyProof.Rows L2 MG LamX
abbrev sRi : Stmt := topS 42
abbrev nRi : List Str := ["_law_box_here", "_law_texts", "_law_text", "_law_turn", "_law_bent_here"]
theorem scRi : FnScope ["_law_box_here", "_law_texts", "_law_text", "_law_turn", "_law_bent_here"] ["_law_box_here"] (defScope sRi) := ⟨rfl, rfl, rfl, by decide +kernel, rfl, by decide +kernel, by decide +kernel⟩
section
variable {P : Program} {w : World} {K : PySem.W.Frag} {mg : Str → Option Value} {base : Heap}
def spRi (PQ : Addr) : Sp := fun vs H Q _ => ∃ (b : Addr) (n : Nat), vs = [.ref b] ∧ Box H b n ∧ n ≤ 1000 ∧ Tabs (TW PQ) H ∧ ∀ H', SXN b H H' → Tabs (TW PQ) H' → Q (.bl true) H'
theorem ok_ri {f fT fAr fPl fRt fPt fBe fTh fRd PQ : Addr} {fd fdT fdAr fdPl fdRt fdPt fdBe fdTh fdRd : FuncData} {k : Nat} (F : Fun K "_law_right" "_law_right" sRi f fd)
    (FT : Fun K "_law_take" "_law_take" sTake fT fdT) (bT : Binds K fdT ["_law_box_here", "_law_many"] []) (gT : mg "_law_take" = some (.ref fT))
    (FAr : Fun K "_law_any_row" "_law_any_row" sAr fAr fdAr) (bAr : Binds K fdAr ["_law_box_here"] []) (gAr : mg "_law_any_row" = some (.ref fAr)) (GAr : FnOk P w K mg base CX0 (k + 4) fAr fdAr ["_law_box_here"] spAr)
    (FPl : Fun K "_law_plan" "_law_plan" sPln fPl fdPl) (bPl : Binds K fdPl ["_law_box_here"] []) (gPl : mg "_law_plan" = some (.ref fPl)) (GPl : FnOk P w K mg base CX0 (k + 4) fPl fdPl ["_law_box_here"] spPln)
    (FRt : Fun K "_law_row_text" "_law_row_text" sRt fRt fdRt) (bRt : Binds K fdRt ["_law_row"] []) (gRt : mg "_law_row_text" = some (.ref fRt)) (GRt : FnOk P w K mg base CX0 (k + 1) fRt fdRt ["_law_row"] spRt)
    (FPt : Fun K "_law_plan_text" "_law_plan_text" sPtx fPt fdPt) (bPt : Binds K fdPt ["_law_plan_here"] []) (gPt : mg "_law_plan_text" = some (.ref fPt)) (GPt : FnOk P w K mg base CX0 (k + 1) fPt fdPt ["_law_plan_here"] spPtx)
    (FBe : Fun K "_law_bent" "_law_bent" sBe fBe fdBe) (bBe : Binds K fdBe ["_law_box_here", "_law_text"] []) (gBe : mg "_law_bent" = some (.ref fBe)) (GBe : FnOk P w K mg base CX0 (k + 3) fBe fdBe ["_law_box_here", "_law_text"] spBe)
    (FTh : Fun K "_law_thing" "_law_thing" sTh fTh fdTh) (bTh : Binds K fdTh ["_law_box_here", "_law_text"] []) (gTh : mg "_law_thing" = some (.ref fTh)) (GTh : FnOk P w K mg base CX0 (k + 3) fTh fdTh ["_law_box_here", "_law_text"] spTh)
    (FRd : Fun K "_law_read_right" "_law_read_right" sRd fRd fdRd) (bRd : Binds K fdRd ["_law_thing_here"] []) (gRd : mg "_law_read_right" = some (.ref fRd)) (GRd : FnG P w K mg base (k + 8) fRd fdRd ["_law_thing_here"] (spRd PQ))
    (m_range : mg "range" = none) (m_list : mg "list" = none) (m_all : mg "all" = none) : FnG P w K mg base (k + 9) f fd ["_law_box_here"] (spRi PQ) := by
  have GT : FnOk P w K mg base CX0 (k + 1) fT fdT ["_law_box_here", "_law_many"] spTake := ok_take FT
  refine okG F scRi (fun vs H Q E h => ?_) (fun cdv A outer s H vs Q E gd hr h => ?_)
  · obtain ⟨b, n, rfl, _⟩ := h
    rfl
  · obtain ⟨b, n, rfl, hB, hn, T, want⟩ := h
    have hr8 := hr
    have hr4 := hr.mono (show k + 4 ≤ k + 8 by omega)
    have hr3 := hr.mono (show k + 3 ≤ k + 8 by omega)
    have hr1 := hr.mono (show k + 1 ≤ k + 8 by omega)
    refine ⟨_, pss_cons (ps_set (i := 1) scRi.nd rfl (.inr rfl) (pe_lst (pa_cons (pe_call GRt hr1 (by rfl) gRt FRt.kp bRt .nil pass0 (pa_cons (pe_call GAr hr4 (by rfl) gAr FAr.kp bAr .nil pass0 (pa_cons (pv 0) pa_nil)) pa_nil)) (pa_cons (pe_call GPt hr1 (by rfl) gPt FPt.kp bPt .nil pass0 (pa_cons (pe_call GPl hr4 (by rfl) gPl FPl.kp bPl .nil pass0 (pa_cons (pv 0) pa_nil)) pa_nil)) (pa_cons pe_str (pa_cons (pe_join pe_str (pe_op op_rep (pe_lst (pa_cons pe_str pa_nil)) pe_int)) (pa_cons pe_str pa_nil)))))))
      (pss_cons (ps_for PassesOwn.never rfl (pi_list (pe_callTy call_list_of (by rfl) m_list (by decide +kernel) (pa_cons (pv 1) pa_nil))) (pg_name (i := 2) scRi.nd rfl (.inl rfl)) (pss_one (ps_for PassesOwn.never rfl (pi_range1 (by rfl) m_range (pa_cons pe_int pa_nil)) (pg_name (i := 3) scRi.nd rfl (.inl rfl)) (pss_cons (ps_set (i := 4) scRi.nd rfl (.inl rfl) (pe_call GBe hr3 (by rfl) gBe FBe.kp bBe .nil pass0 (pa_cons (pv 0) (pa_cons (pv 2) pa_nil))))
      (pss_one (ps_expr (pe_bm PySem.F.plainAttrs_list PySem.F.slot_list_append PySem.F.type_list_append mt_append (pv 1) (pa_cons (pe_ifExp (pt_cmpR op_eq (pe_call GT hr1 (by rfl) gT FT.kp bT .nil pass0 (pa_cons (pv 0) (pa_cons pe_int pa_nil))) pe_int (nomark _)) (pe_call GBe hr3 (by rfl) gBe FBe.kp bBe .nil pass0 (pa_cons (pv 0) (pa_cons (pv 4) pa_nil))) (pv 4)) pa_nil))))))))
      (pss_cons (ps_if (pt_not (pt_val (pe_callB (cr_all rfl) (by rfl) m_all (by decide +kernel) (pa_cons (pe_lc (own := [("_law_text", 2)]) (g := gName 2) (tt := tYes) rfl scRi.nd (pi_list (pv 1)) (blkOk_by (N := nRi) (sc := defScope sRi) (by decide +kernel)) (fun _ _ _ _ _ => pg_name (i := 2) scRi.nd rfl (Or.inl rfl)) (fun _ _ _ _ _ => pts_nil) (fun _ _ _ _ _ => pe_callG (E := E0) GRd gd hr8 (by rfl) gRd FRd.kp bRd (pa_cons (pv 2) pa_nil))) pa_nil)))) (pss_one (ps_ret pe_bl)) pss_nil)
      (pss_one (ps_ret (pe_callB (cr_all rfl) (by rfl) m_all (by decide +kernel) (pa_cons (pe_lc (own := [("_law_turn", 3)]) (g := gName 3) (tt := tYes) (te := (tCall _ _ _ (tCons (tCall _ _ _ (tCons _ (tCons (tOp (rIxL K) _ _) tNil))) tNil))) rfl scRi.nd (pi_range1 (by rfl) m_range (pa_cons pe_int pa_nil)) (blkOk_by (N := nRi) (sc := defScope sRi) (by decide +kernel)) (fun _ _ _ _ _ => pg_name (i := 3) scRi.nd rfl (Or.inl rfl)) (fun _ _ _ _ _ => pts_nil) (fun _ _ _ _ _ => pe_callG (E := E0) GRd gd hr8 (by rfl) gRd FRd.kp bRd (pa_cons (pe_call GTh hr3 (by rfl) gTh FTh.kp bTh .nil pass0 (pa_cons (pv 0) (pa_cons (pe_ix ix_list (pv 1) pe_int (fun _ _ => rfl)) pa_nil))) pa_nil))) pa_nil)))))), ?_⟩
    have S0 : St b (TW PQ) H H n := .start T hB
    refine ⟨_, rfl, b, n, rfl, hB, by omega, fun p1 H1 ns l1 s0 s1 x1 B1 e1 => ⟨p1, ns, rfl, e1, by omega, fun n hn => Nat.lt_of_le_of_lt (TX.mem_sumN hn) s1, fun z1 H2 s2 ez1 tz1 => ?_⟩⟩
    have S2 := (S0.sx x1 B1).same s2
    refine ⟨_, rfl, b, _, rfl, S2.B, by omega, fun p2 H3 ts rs lr gr x3 B3 e3 hrs => ⟨p2, ts, rs, rfl, e3, hrs, by omega, gr, fun z2 H4 s4 ez2 tz2 => ?_⟩⟩
    have S4 := (S2.sx x3 B3).same s4
    have tz1 : TX.Tok z1 741 := tz1.le (by omega)
    have tz2 : TX.Tok z2 741 := tz2.le (by omega)
    refine ⟨⟨_, rfl⟩, by show 1 ≤ sizeLine; decide, fun l n1 => ?_⟩
    have S5 := S4.new (o := .lst [.str "1"]) n1
    have e5 : upd H4 l (.lst [.str "1"]) l = some (.lst [.str "1"]) := upd_same
    generalize upd H4 l (HO.lst [V.str "1"]) = H5 at S5 e5 ⊢
    refine ⟨l, 13, _, rfl, rfl, e5, by decide, by decide, by show 13 ≤ sizeLine; decide, fun l2 n2 => ?_⟩
    have S6 := S5.new (o := .lst (List.replicate (13 : Int).toNat [V.str "1"]).flatten) n2
    have e6 : upd H5 l2 (.lst (List.replicate (13 : Int).toNat [V.str "1"]).flatten) l2 = some (.lst ((List.replicate 13 ("1" : Str)).map V.str)) := upd_same
    generalize upd H5 l2 (HO.lst (List.replicate (13 : Int).toNat [V.str "1"]).flatten) = H6 at S6 e6 ⊢
    refine ⟨" ", l2, List.replicate 13 "1", rfl, rfl, .inl (SqL.of e6), by decide, ?_⟩
    have tz4 : TX.Tok (Txt.join " " (List.replicate 13 ("1" : Str))) 741 := (TX.join_tok eq_blank (by decide) (n := 1) (parts := List.replicate 13 ("1" : Str)) (fun p hp => by rw [List.eq_of_mem_replicate hp]; exact ⟨by decide, by decide +kernel⟩)).1.le (by rw [List.length_replicate]; omega)
    generalize Txt.join " " (List.replicate 13 ("1" : Str)) = z4 at tz4 ⊢
    refine ⟨by show 5 ≤ sizeLine; decide, fun L nL => ?_⟩
    have S7 := S6.new (o := .lst [.str z1, .str z2, .str "0 0 0", .str z4, .str "-"]) nL
    have e7 : upd H6 L (.lst [.str z1, .str z2, .str "0 0 0", .str z4, .str "-"]) L = some (.lst ([z1, z2, "0 0 0", z4, "-"].map V.str)) := upd_same
    generalize upd H6 L (HO.lst [V.str z1, V.str z2, .str "0 0 0", .str z4, .str "-"]) = H7 at S7 e7 ⊢
    have five : ∀ z ∈ [z1, z2, "0 0 0", z4, "-"], TX.Tok z 741 := fun z hz => by
      simp only [List.mem_cons, List.not_mem_nil, or_false] at hz
      rcases hz with rfl | rfl | rfl | rfl | rfl
      · exact tz1
      · exact tz2
      · exact ⟨by decide, by decide +kernel⟩
      · exact tz4
      · exact ⟨by decide, by decide +kernel⟩
    have len5 : [z1, z2, "0 0 0", z4, "-"].length = 5 := rfl
    generalize [z1, z2, "0 0 0", z4, "-"] = fs at e7 five len5 ⊢
    have Lb : L ≠ b := (S6.ne nL).symm
    clear e5 e6 tz1 tz2 tz4 n1 n2 S5
    refine ⟨_, rfl, L, _, rfl, .inl (SqL.of e7), fun c nc => ⟨c, rfl, ⟨_, SqL.of upd_same⟩, ?_⟩⟩
    have cb : c ≠ b := (S7.ne nc).symm
    have cL : c ≠ L := (ne_of_none e7 nc).symm
    have five8 : ∀ z ∈ fs, TX.Tok z 8000 := fun z hz => (five z hz).le (by omega)
    refine for_list (K := K) (a := c) (xs := fs.map V.str) (fun i σ G => ∃ zs y2 y3 y4, σ = [some (.ref b), some (.ref L), y2, y3, y4] ∧ St b (TW PQ) H G (n + 200 + 104 * i) ∧ G c = some (.lst (fs.map V.str)) ∧ G L = some (.lst (zs.map V.str)) ∧ zs.length = 5 + 8 * i ∧ ∀ z ∈ zs, TX.Tok z 8000)
      ⟨fs, none, none, none, rfl, (S7.new nc).le (by omega), upd_same, same_upd nc _ _ e7, len5, five8⟩ ?_ ?_ ?_
    · rintro i σ G _ ⟨_, _, _, _, _, _, ec, _⟩
      exact SqL.of ec
    · rintro i x σ G hx ⟨zs, y2, y3, y4, rfl, SG, ec, eL, lz, tzs⟩
      rw [List.getElem?_map] at hx
      obtain ⟨z, hz, rfl⟩ := Option.map_eq_some_iff.mp hx
      have hi : i < 5 := by rw [← len5]; exact (List.getElem?_eq_some_iff.mp hz).1
      have tz : TX.Tok z 741 := five z (List.mem_of_getElem? hz)
      refine ⟨_, rfl, by decide, by decide, ?_⟩
      refine for_range (lo := 0) (n := 8) (fun m σ G => ∃ zs y3 y4, σ = [some (.ref b), some (.ref L), some (.str z), y3, y4] ∧ St b (TW PQ) H G (n + 200 + 104 * i + 13 * m) ∧ G c = some (.lst (fs.map V.str)) ∧ G L = some (.lst (zs.map V.str)) ∧ zs.length = 5 + 8 * i + m ∧ ∀ z ∈ zs, TX.Tok z 8000) ⟨zs, y3, y4, rfl, SG, ec, eL, lz, tzs⟩ ?_ ?_
      · clear SG ec eL lz tzs y3 y4 zs G hx
        rintro m σ G hm ⟨zs, y3, y4, rfl, SG, ec, eL, lz, tzs⟩
        refine ⟨_, rfl, _, rfl, b, z, _, 741, rfl, SG.B, by omega, tz, by omega, fun y G1 ty x1 B1 => ?_⟩
        have S1 := SG.sx x1 B1
        have ec1 := x1 c _ cb ec
        have eL1 := x1 L _ Lb eL
        refine ⟨_, rfl, .inl ⟨rfl, _, SqL.of eL1⟩, _, rfl, b, 3, _, rfl, S1.B, by omega, by decide, by decide, fun r G2 _ _ B2 k2 => ?_⟩
        have S2 := S1.draw B2 k2
        have ec2 : G2 c = some (.lst (fs.map V.str)) := by rw [k2 c cb]; exact ec1
        have eL2 : G2 L = some (.lst (zs.map V.str)) := by rw [k2 L Lb]; exact eL1
        have put : ∀ {G : Hp} (v : Str), TX.Tok v 8000 → St b (TW PQ) H G (n + 200 + 104 * i + 13 * (m + 1)) → G c = some (.lst (fs.map V.str)) → G L = some (.lst (zs.map V.str)) → ∃ (zs' : List Str) (y3' y4' : Option V), [some (V.ref b), some (V.ref L), some (V.str z), some (V.int (0 + (m : Int))), some (V.str y)] = [some (.ref b), some (.ref L), some (.str z), y3', y4'] ∧ St b (TW PQ) H (upd G L (.lst (zs.map V.str ++ [V.str v]))) (n + 200 + 104 * i + 13 * (m + 1)) ∧ (upd G L (.lst (zs.map V.str ++ [V.str v]))) c = some (.lst (fs.map V.str)) ∧ (upd G L (.lst (zs.map V.str ++ [V.str v]))) L = some (.lst (zs'.map V.str)) ∧ zs'.length = 5 + 8 * i + (m + 1) ∧ ∀ z ∈ zs', TX.Tok z 8000 := fun {G} v tv SG ec eL => by
          refine ⟨zs ++ [v], _, _, rfl, St.put S6 nL SG eL, by rw [upd_ne cL]; exact ec, by rw [upd_same, List.map_append]; rfl, by rw [List.length_append]; show zs.length + 1 = _; omega, fun z hz => ?_⟩
          rcases List.mem_append.mp hz with h | h
          · exact tzs z h
          · rw [List.mem_singleton.mp h]; exact tv
        have small : (zs.map V.str).length < sizeLine := by rw [List.length_map, sizeLine_eq]; omega
        refine ⟨rfl, _, rfl, ite2 (fun _ => ?_) (fun _ => ?_)⟩
        · refine ⟨_, rfl, _, rfl, b, y, _, _, rfl, S2.B, by omega, ty, by omega, fun y' G3 ty' x3 B3 => ?_⟩
          have S3 := S2.sx x3 B3
          exact ⟨L, _, _, rfl, rfl, x3 L _ Lb eL2, small, put y' (ty'.le (by omega)) (S3.le (by omega)) (x3 c _ cb ec2) (x3 L _ Lb eL2)⟩
        · exact ⟨_, rfl, L, _, _, rfl, rfl, eL2, small, put y (ty.le (by omega)) (S2.le (by omega)) ec2 eL2⟩
      · rintro σ G ⟨zs, y3, y4, rfl, SG, ec, eL, lz, tzs⟩
        exact ⟨zs, _, _, _, rfl, SG.le (by omega), ec, eL, by omega, tzs⟩
    clear S7 e7 five S0
    rintro σ G ⟨zs, y2, y3, y4, rfl, SG, ec, eL, lz, tzs⟩
    rw [List.length_map, len5] at SG lz
    clear ec cL cb five8 len5
    have trues : ∀ n : Nat, (List.replicate n true).all id = true := fun n => List.all_eq_true.mpr fun z hz => by rw [List.eq_of_mem_replicate hz]; rfl
    -- every text is read right
    refine ⟨_, rfl, L, rfl, ⟨_, SqL.of eL⟩, fun D nD => ?_⟩
    have DL : D ≠ L := (ne_of_none eL nD).symm
    have S8 := SG.new (o := .lst []) nD
    have lz0 : (zs.map V.str).length = 45 := by rw [List.length_map]; omega
    refine lc_list (K := K) (a := L) (xs := zs.map V.str) (fun m G' => St b (TW PQ) H G' (n + 800) ∧ G' L = some (.lst (zs.map V.str)) ∧ G' D = some (.lst ((List.replicate m true).map V.bl))) ⟨S8.le (by omega), same_upd nD _ _ eL, upd_same⟩ ?_ ?_ ?_
    · rintro m G0 _ ⟨_, e, _⟩
      exact SqL.of e
    · rintro m x G0 hx ⟨S9, e9, hD⟩
      rw [List.getElem?_map] at hx
      obtain ⟨z, hz, rfl⟩ := Option.map_eq_some_iff.mp hx
      have hm : m < zs.length := (List.getElem?_eq_some_iff.mp hz).1
      refine ⟨rfl, _, rfl, .str z, .str z, rfl, .str z, .inr ⟨z, rfl, tzs z (List.mem_of_getElem? hz)⟩, S9.T, fun G2 x2 T2 => ?_⟩
      have hD2 := extLst x2 hD
      refine ⟨_, hD2, by rw [List.length_map, List.length_replicate, sizeLine_eq]; omega, ?_, ?_, ?_⟩
      · exact St.put SG nD (S9.ext x2 T2) hD2
      · rw [upd_ne DL.symm]; exact extLst x2 e9
      · rw [upd_same, List.replicate_succ', List.map_append]; rfl
    rintro G3 ⟨S9, e9, hD⟩
    refine ⟨D, List.replicate _ true, rfl, SqL.of hD, ?_⟩
    rw [trues]
    refine ⟨_, rfl, iteF ⟨_, rfl, by decide, by decide, fun D2 nD2 => ?_⟩⟩
    have D2L : D2 ≠ L := (ne_of_none e9 nD2).symm
    have S10 := S9.new (o := .lst []) nD2
    obtain ⟨z0, zs', rfl⟩ : ∃ z0 zs', zs = z0 :: zs' := by
      cases zs with
      | nil => cases lz
      | cons a r => exact ⟨a, r, rfl⟩
    -- the things
    refine lc_range (lo := 0) (n := 4) (fun m G' => St b (TW PQ) H G' (n + 800 + m) ∧ G' L = some (.lst ((z0 :: zs').map V.str)) ∧ G' D2 = some (.lst ((List.replicate m true).map V.bl))) ⟨S10, same_upd nD2 _ _ e9, upd_same⟩ ?_ ?_
    · rintro m G0 hm ⟨S11, e11, hD2⟩
      have D2b : D2 ≠ b := (S9.ne nD2).symm
      refine ⟨rfl, _, rfl, _, rfl, L, _, 0, .str z0, rfl, rfl, SqL.of e11, atI_nat (j := 0) rfl, b, z0, _, rfl, S11.B, by omega, fun x d G1 dd nd x1 B1 => ?_⟩
      have S12 := S11.sx x1 B1
      refine ⟨x, d, rfl, dd, .inl nd, S12.T, fun G2 x2 T2 => ?_⟩
      have hD3 := extLst x2 (x1 D2 _ D2b hD2)
      refine ⟨_, hD3, by rw [List.length_map, List.length_replicate, sizeLine_eq]; omega, ?_, ?_, ?_⟩
      · exact (St.put S9 nD2 (S12.ext x2 T2) hD3).le (by omega)
      · rw [upd_ne D2L.symm]; exact extLst x2 (x1 L _ Lb e11)
      · rw [upd_same, List.replicate_succ', List.map_append]; rfl
    rintro G4 ⟨S11, e11, hD2⟩
    refine ⟨D2, List.replicate _ true, rfl, SqL.of hD2, ?_⟩
    rw [trues]
    exact want G4 S11.x S11.T
end
end K61

namespace K61
open PySem PySem.Spec PyProof.Rows L2 MG LamX
abbrev sLaw : Stmt := topS 43
abbrev nLaw : List Str := ["_law_script", "_law_k"]
theorem scLaw : FnScope ["_law_script", "_law_k"] ["_law_script"] (defScope sLaw) := ⟨rfl, rfl, rfl, by decide +kernel, rfl, by decide +kernel, by decide +kernel⟩
section
variable {P : Program} {w : World} {K : PySem.W.Frag} {mg : Str → Option Value} {base : Heap}
def spLaw (K : PySem.W.Frag) (PQ : Addr) : Sp := fun vs H Q _ => ∃ (a : Addr) (ns : List Int), vs = [.ref a] ∧ SqL K H a (ns.map V.int) ∧ ns.length ≤ 63 ∧ Tabs (TW PQ) H ∧ ∀ H', Q (.bl true) H'
theorem ok_law {f fX fRi PQ : Addr} {fd fdX fdRi : FuncData} {k : Nat} (F : Fun K "law" "law" sLaw f fd)
    (FX : Fun K "_law_box" "_law_box" sBox fX fdX) (bX : Binds K fdX ["_law_script", "_law_k"] []) (gX : mg "_law_box" = some (.ref fX)) (GX : FnOk P w K mg base CX0 (k + 1) fX fdX ["_law_script", "_law_k"] (spBox K))
    (FRi : Fun K "_law_right" "_law_right" sRi fRi fdRi) (bRi : Binds K fdRi ["_law_box_here"] []) (gRi : mg "_law_right" = some (.ref fRi)) (GRi : FnG P w K mg base (k + 9) fRi fdRi ["_law_box_here"] (spRi PQ))
    (m_len : mg "len" = none) (m_min : mg "min" = none) (m_max : mg "max" = none) (m_range : mg "range" = none) (m_all : mg "all" = none) : FnG P w K mg base (k + 10) f fd ["_law_script"] (spLaw K PQ) := by
  refine okG F scLaw (fun vs H Q E h => ?_) (fun cdv A outer s H vs Q E gd hr h => ?_)
  · obtain ⟨a, ns, rfl, _⟩ := h
    rfl
  · obtain ⟨a, ns, rfl, hS, hlen, T, q⟩ := h
    have hr1 := hr.mono (show k + 1 ≤ k + 9 by omega)
    have hr9 := hr
    refine ⟨_, pss_one (ps_ret (pe_callB (cr_all rfl) (by rfl) m_all (by decide +kernel) (pa_cons (pe_lc (own := [("_law_k", 1)]) (g := gName 1) (tt := tYes) rfl scLaw.nd (pi_range1 (by rfl) m_range (pa_cons (pe_callB (call_max2 rfl) (by rfl) m_max (by decide +kernel) (pa_cons pe_int (pa_cons (pe_callB (call_min2 rfl) (by rfl) m_min (by decide +kernel) (pa_cons pe_int (pa_cons (pe_callB call_len_seq (by rfl) m_len PySem.boot_len (pa_cons (pv 0) pa_nil)) pa_nil))) pa_nil))) pa_nil)) (blkOk_by (N := nLaw) (sc := defScope sLaw) (by decide +kernel)) (fun _ _ _ _ _ => pg_name (i := 1) scLaw.nd rfl (Or.inl rfl)) (fun _ _ _ _ _ => pts_nil) (fun _ _ _ _ _ => pe_callG (E := E0) GRi gd hr9 (by rfl) gRi FRi.kp bRi (pa_cons (pe_call GX hr1 (by rfl) gX FX.kp bX .nil pass0 (pa_cons (pv 0) (pa_cons (pv 1) pa_nil))) pa_nil))) pa_nil))), ?_⟩
    refine ⟨.ref a, rfl, a, _, rfl, .inl hS, 3, _, rfl, 1, _, rfl, _, rfl, ?_, ?_, fun D nD => ?_⟩
    · rw [List.length_map]; repeat' split <;> omega
    · rw [List.length_map]; repeat' split <;> omega
    refine lc_range (lo := 0) (n := _) (fun m G' => ExtN H G' ∧ Tabs (TW PQ) G' ∧ G' D = some (.lst ((List.replicate m true).map V.bl))) ⟨ext_same (same_upd nD), T.ext (same_upd nD), upd_same⟩ ?_ ?_
    · rintro m G0 hm ⟨s0, T0, hD⟩
      have hm4 : m < 5 := by
        refine Nat.lt_of_lt_of_le hm ?_
        rw [List.length_map]; repeat' split <;> omega
      refine ⟨rfl, .ref a, rfl, _, rfl, a, ns, 0 + (m : Int), rfl, ext_seq s0 hS, by omega, by omega, fun b H1 nb s1 hB k1 => ?_⟩
      have keep : ∀ {G : Hp}, SXN b H1 G → ExtN H G := fun x c o hc z => x c o (ne_of_none (s0 _ _ hc z) nb) (s1 _ _ (s0 _ _ hc z)) z
      have Db : D ≠ b := ne_of_none hD nb
      refine ⟨b, 0, rfl, hB, by omega, T0.ext s1, fun G2 x2 T2 => ?_⟩
      have hD2 : G2 D = some (.lst ((List.replicate m true).map V.bl)) := x2 D _ Db (s1 _ _ hD) (fun _ z => nomatch z)
      refine ⟨_, hD2, ?_, ⟨fun c o hc z => ?_, tabsOff T2 hD2 (fun c o h e => by rw [upd_ne h]; exact e), ?_⟩⟩
      · rw [List.length_map, List.length_replicate, sizeLine_eq]; omega
      · rw [upd_ne (ne_of_none hc nD)]; exact keep x2 c o hc z
      · rw [upd_same, List.replicate_succ', List.map_append]; rfl
    rintro G3 ⟨s3, T3, hD⟩
    refine ⟨D, List.replicate _ true, rfl, SqL.of hD, ?_⟩
    rw [show ∀ n : Nat, (List.replicate n true).all id = true from fun n => List.all_eq_true.mpr fun z hz => by rw [List.eq_of_mem_replicate hz]; rfl]
    exact q G3
end
end K61

namespace K61
open PySem PySem.Spec PyProof.Rows L2 MG LamX
theorem all_mk {l : PySem.W.OpenLaw} {w : World} {K : PySem.W.Frag} {h : Heap} {mg : Str → Option Value} {fa : Addr} (X : K.In h) (G : h.Ns mainGlobals mg) (hfa : mg "law" = some (.ref fa))
    {CG D0 D1 D2 D3 D4 D5 D6 D7 : Addr}
    {fSaid : Addr} {odSaid anSaid : Option Addr} {slSaid : Array (Option Value)} {ocSaid kVSaid dcSaid pmSaid cdSaid ctSaid : Value}
    (aSaid : PySem.W.nsIn K mainGlobals "_law_said" = some (some (.ref fSaid))) (lSaid : K.lookup fSaid = some ⟨ocSaid, odSaid, .func (PySem.W.fnOf "_law_said" "_law_said" (defArgs sSaid) (defBody sSaid) (defScope sSaid) .none kVSaid dcSaid pmSaid anSaid cdSaid ctSaid), slSaid⟩) (cSaid : PySem.W.codeIn K cdSaid "_law_said" = true) (kSaid : PySem.W.keepIn K (.ref fSaid) = true)
    {fBox : Addr} {odBox anBox : Option Addr} {slBox : Array (Option Value)} {ocBox kVBox dcBox pmBox cdBox ctBox : Value}
    (aBox : PySem.W.nsIn K mainGlobals "_law_box" = some (some (.ref fBox))) (lBox : K.lookup fBox = some ⟨ocBox, odBox, .func (PySem.W.fnOf "_law_box" "_law_box" (defArgs sBox) (defBody sBox) (defScope sBox) .none kVBox dcBox pmBox anBox cdBox ctBox), slBox⟩) (cBox : PySem.W.codeIn K cdBox "_law_box" = true) (kBox : PySem.W.keepIn K (.ref fBox) = true)
    {fTake : Addr} {odTake anTake : Option Addr} {slTake : Array (Option Value)} {ocTake kVTake dcTake pmTake cdTake ctTake : Value}
    (aTake : PySem.W.nsIn K mainGlobals "_law_take" = some (some (.ref fTake))) (lTake : K.lookup fTake = some ⟨ocTake, odTake, .func (PySem.W.fnOf "_law_take" "_law_take" (defArgs sTake) (defBody sTake) (defScope sTake) .none kVTake dcTake pmTake anTake cdTake ctTake), slTake⟩) (cTake : PySem.W.codeIn K cdTake "_law_take" = true) (kTake : PySem.W.keepIn K (.ref fTake) = true)
    {fOf : Addr} {odOf anOf : Option Addr} {slOf : Array (Option Value)} {ocOf kVOf dcOf pmOf cdOf ctOf : Value}
    (aOf : PySem.W.nsIn K mainGlobals "_law_of" = some (some (.ref fOf))) (lOf : K.lookup fOf = some ⟨ocOf, odOf, .func (PySem.W.fnOf "_law_of" "_law_of" (defArgs sOf) (defBody sOf) (defScope sOf) .none kVOf dcOf pmOf anOf cdOf ctOf), slOf⟩) (cOf : PySem.W.codeIn K cdOf "_law_of" = true) (kOf : PySem.W.keepIn K (.ref fOf) = true)
    {fNum : Addr} {odNum anNum : Option Addr} {slNum : Array (Option Value)} {ocNum kVNum dcNum pmNum cdNum ctNum : Value}
    (aNum : PySem.W.nsIn K mainGlobals "_law_number" = some (some (.ref fNum))) (lNum : K.lookup fNum = some ⟨ocNum, odNum, .func (PySem.W.fnOf "_law_number" "_law_number" (defArgs sNum) (defBody sNum) (defScope sNum) .none kVNum dcNum pmNum anNum cdNum ctNum), slNum⟩) (cNum : PySem.W.codeIn K cdNum "_law_number" = true) (kNum : PySem.W.keepIn K (.ref fNum) = true)
    {fAr : Addr} {odAr anAr : Option Addr} {slAr : Array (Option Value)} {ocAr kVAr dcAr pmAr cdAr ctAr : Value}
    (aAr : PySem.W.nsIn K mainGlobals "_law_any_row" = some (some (.ref fAr))) (lAr : K.lookup fAr = some ⟨ocAr, odAr, .func (PySem.W.fnOf "_law_any_row" "_law_any_row" (defArgs sAr) (defBody sAr) (defScope sAr) .none kVAr dcAr pmAr anAr cdAr ctAr), slAr⟩) (cAr : PySem.W.codeIn K cdAr "_law_any_row" = true) (kAr : PySem.W.keepIn K (.ref fAr) = true)
    {fPln : Addr} {odPln anPln : Option Addr} {slPln : Array (Option Value)} {ocPln kVPln dcPln pmPln cdPln ctPln : Value}
    (aPln : PySem.W.nsIn K mainGlobals "_law_plan" = some (some (.ref fPln))) (lPln : K.lookup fPln = some ⟨ocPln, odPln, .func (PySem.W.fnOf "_law_plan" "_law_plan" (defArgs sPln) (defBody sPln) (defScope sPln) .none kVPln dcPln pmPln anPln cdPln ctPln), slPln⟩) (cPln : PySem.W.codeIn K cdPln "_law_plan" = true) (kPln : PySem.W.keepIn K (.ref fPln) = true)
    {fRt : Addr} {odRt anRt : Option Addr} {slRt : Array (Option Value)} {ocRt kVRt dcRt pmRt cdRt ctRt : Value}
    (aRt : PySem.W.nsIn K mainGlobals "_law_row_text" = some (some (.ref fRt))) (lRt : K.lookup fRt = some ⟨ocRt, odRt, .func (PySem.W.fnOf "_law_row_text" "_law_row_text" (defArgs sRt) (defBody sRt) (defScope sRt) .none kVRt dcRt pmRt anRt cdRt ctRt), slRt⟩) (cRt : PySem.W.codeIn K cdRt "_law_row_text" = true) (kRt : PySem.W.keepIn K (.ref fRt) = true)
    {fPtx : Addr} {odPtx anPtx : Option Addr} {slPtx : Array (Option Value)} {ocPtx kVPtx dcPtx pmPtx cdPtx ctPtx : Value}
    (aPtx : PySem.W.nsIn K mainGlobals "_law_plan_text" = some (some (.ref fPtx))) (lPtx : K.lookup fPtx = some ⟨ocPtx, odPtx, .func (PySem.W.fnOf "_law_plan_text" "_law_plan_text" (defArgs sPtx) (defBody sPtx) (defScope sPtx) .none kVPtx dcPtx pmPtx anPtx cdPtx ctPtx), slPtx⟩) (cPtx : PySem.W.codeIn K cdPtx "_law_plan_text" = true) (kPtx : PySem.W.keepIn K (.ref fPtx) = true)
    {fBe : Addr} {odBe anBe : Option Addr} {slBe : Array (Option Value)} {ocBe kVBe dcBe pmBe cdBe ctBe : Value}
    (aBe : PySem.W.nsIn K mainGlobals "_law_bent" = some (some (.ref fBe))) (lBe : K.lookup fBe = some ⟨ocBe, odBe, .func (PySem.W.fnOf "_law_bent" "_law_bent" (defArgs sBe) (defBody sBe) (defScope sBe) .none kVBe dcBe pmBe anBe cdBe ctBe), slBe⟩) (cBe : PySem.W.codeIn K cdBe "_law_bent" = true) (kBe : PySem.W.keepIn K (.ref fBe) = true)
    {fTh : Addr} {odTh anTh : Option Addr} {slTh : Array (Option Value)} {ocTh kVTh dcTh pmTh cdTh ctTh : Value}
    (aTh : PySem.W.nsIn K mainGlobals "_law_thing" = some (some (.ref fTh))) (lTh : K.lookup fTh = some ⟨ocTh, odTh, .func (PySem.W.fnOf "_law_thing" "_law_thing" (defArgs sTh) (defBody sTh) (defScope sTh) .none kVTh dcTh pmTh anTh cdTh ctTh), slTh⟩) (cTh : PySem.W.codeIn K cdTh "_law_thing" = true) (kTh : PySem.W.keepIn K (.ref fTh) = true)
    {fNo : Addr} {odNo anNo : Option Addr} {slNo : Array (Option Value)} {ocNo kVNo dcNo pmNo cdNo ctNo : Value}
    (aNo : PySem.W.nsIn K mainGlobals "_law_number_of" = some (some (.ref fNo))) (lNo : K.lookup fNo = some ⟨ocNo, odNo, .func (PySem.W.fnOf "_law_number_of" "_law_number_of" (defArgs sNo) (defBody sNo) (defScope sNo) .none kVNo dcNo pmNo anNo cdNo ctNo), slNo⟩) (cNo : PySem.W.codeIn K cdNo "_law_number_of" = true) (kNo : PySem.W.keepIn K (.ref fNo) = true)
    {fRo : Addr} {odRo anRo : Option Addr} {slRo : Array (Option Value)} {ocRo kVRo dcRo pmRo cdRo ctRo : Value}
    (aRo : PySem.W.nsIn K mainGlobals "_law_row_of" = some (some (.ref fRo))) (lRo : K.lookup fRo = some ⟨ocRo, odRo, .func (PySem.W.fnOf "_law_row_of" "_law_row_of" (defArgs sRo) (defBody sRo) (defScope sRo) .none kVRo dcRo pmRo anRo cdRo ctRo), slRo⟩) (cRo : PySem.W.codeIn K cdRo "_law_row_of" = true) (kRo : PySem.W.keepIn K (.ref fRo) = true)
    {fUo : Addr} {odUo anUo : Option Addr} {slUo : Array (Option Value)} {ocUo kVUo dcUo pmUo cdUo ctUo : Value}
    (aUo : PySem.W.nsIn K mainGlobals "_law_run_of" = some (some (.ref fUo))) (lUo : K.lookup fUo = some ⟨ocUo, odUo, .func (PySem.W.fnOf "_law_run_of" "_law_run_of" (defArgs sUo) (defBody sUo) (defScope sUo) .none kVUo dcUo pmUo anUo cdUo ctUo), slUo⟩) (cUo : PySem.W.codeIn K cdUo "_law_run_of" = true) (kUo : PySem.W.keepIn K (.ref fUo) = true)
    {fPo : Addr} {odPo anPo : Option Addr} {slPo : Array (Option Value)} {ocPo kVPo dcPo pmPo cdPo ctPo : Value}
    (aPo : PySem.W.nsIn K mainGlobals "_law_plan_of" = some (some (.ref fPo))) (lPo : K.lookup fPo = some ⟨ocPo, odPo, .func (PySem.W.fnOf "_law_plan_of" "_law_plan_of" (defArgs sPo) (defBody sPo) (defScope sPo) .none kVPo dcPo pmPo anPo cdPo ctPo), slPo⟩) (cPo : PySem.W.codeIn K cdPo "_law_plan_of" = true) (kPo : PySem.W.keepIn K (.ref fPo) = true)
    {fWd : Addr} {odWd anWd : Option Addr} {slWd : Array (Option Value)} {ocWd kVWd dcWd pmWd cdWd ctWd : Value}
    (aWd : PySem.W.nsIn K mainGlobals "words_of" = some (some (.ref fWd))) (lWd : K.lookup fWd = some ⟨ocWd, odWd, .func (PySem.W.fnOf "words_of" "words_of" (defArgs sWd) (defBody sWd) (defScope sWd) .none kVWd dcWd pmWd anWd cdWd ctWd), slWd⟩) (cWd : PySem.W.codeIn K cdWd "words_of" = true) (kWd : PySem.W.keepIn K (.ref fWd) = true)
    {fOs : Addr} {odOs anOs : Option Addr} {slOs : Array (Option Value)} {ocOs kVOs dcOs pmOs cdOs ctOs : Value}
    (aOs : PySem.W.nsIn K mainGlobals "is_of_signs" = some (some (.ref fOs))) (lOs : K.lookup fOs = some ⟨ocOs, odOs, .func (PySem.W.fnOf "is_of_signs" "is_of_signs" (defArgs sOs) (defBody sOs) (defScope sOs) .none kVOs dcOs pmOs anOs cdOs ctOs), slOs⟩) (cOs : PySem.W.codeIn K cdOs "is_of_signs" = true) (kOs : PySem.W.keepIn K (.ref fOs) = true)
    {fIn : Addr} {odIn anIn : Option Addr} {slIn : Array (Option Value)} {ocIn kVIn dcIn pmIn cdIn ctIn : Value}
    (aIn : PySem.W.nsIn K mainGlobals "is_number" = some (some (.ref fIn))) (lIn : K.lookup fIn = some ⟨ocIn, odIn, .func (PySem.W.fnOf "is_number" "is_number" (defArgs sIn) (defBody sIn) (defScope sIn) .none kVIn dcIn pmIn anIn cdIn ctIn), slIn⟩) (cIn : PySem.W.codeIn K cdIn "is_number" = true) (kIn : PySem.W.keepIn K (.ref fIn) = true)
    {fRn : Addr} {odRn anRn : Option Addr} {slRn : Array (Option Value)} {ocRn kVRn dcRn pmRn cdRn ctRn : Value}
    (aRn : PySem.W.nsIn K mainGlobals "read_number" = some (some (.ref fRn))) (lRn : K.lookup fRn = some ⟨ocRn, odRn, .func (PySem.W.fnOf "read_number" "read_number" (defArgs sRn) (defBody sRn) (defScope sRn) .none kVRn dcRn pmRn anRn cdRn ctRn), slRn⟩) (cRn : PySem.W.codeIn K cdRn "read_number" = true) (kRn : PySem.W.keepIn K (.ref fRn) = true)
    {fWhole : Addr} {odWhole anWhole : Option Addr} {slWhole : Array (Option Value)} {ocWhole kVWhole dcWhole pmWhole cdWhole ctWhole : Value}
    (aWhole : PySem.W.nsIn K mainGlobals "is_whole" = some (some (.ref fWhole))) (lWhole : K.lookup fWhole = some ⟨ocWhole, odWhole, .func (PySem.W.fnOf "is_whole" "is_whole" (defArgs sWhole) (defBody sWhole) (defScope sWhole) .none kVWhole dcWhole pmWhole anWhole cdWhole ctWhole), slWhole⟩) (cWhole : PySem.W.codeIn K cdWhole "is_whole" = true) (kWhole : PySem.W.keepIn K (.ref fWhole) = true)
    {fRow : Addr} {odRow anRow : Option Addr} {slRow : Array (Option Value)} {ocRow kVRow dcRow pmRow cdRow ctRow : Value}
    (aRow : PySem.W.nsIn K mainGlobals "is_row" = some (some (.ref fRow))) (lRow : K.lookup fRow = some ⟨ocRow, odRow, .func (PySem.W.fnOf "is_row" "is_row" (defArgs sRow) (defBody sRow) (defScope sRow) .none kVRow dcRow pmRow anRow cdRow ctRow), slRow⟩) (cRow : PySem.W.codeIn K cdRow "is_row" = true) (kRow : PySem.W.keepIn K (.ref fRow) = true)
    {fRr : Addr} {odRr anRr : Option Addr} {slRr : Array (Option Value)} {ocRr kVRr dcRr pmRr cdRr ctRr : Value}
    (aRr : PySem.W.nsIn K mainGlobals "read_row" = some (some (.ref fRr))) (lRr : K.lookup fRr = some ⟨ocRr, odRr, .func (PySem.W.fnOf "read_row" "read_row" (defArgs sRr) (defBody sRr) (defScope sRr) .none kVRr dcRr pmRr anRr cdRr ctRr), slRr⟩) (cRr : PySem.W.codeIn K cdRr "read_row" = true) (kRr : PySem.W.keepIn K (.ref fRr) = true)
    {fRu : Addr} {odRu anRu : Option Addr} {slRu : Array (Option Value)} {ocRu kVRu dcRu pmRu cdRu ctRu : Value}
    (aRu : PySem.W.nsIn K mainGlobals "read_run" = some (some (.ref fRu))) (lRu : K.lookup fRu = some ⟨ocRu, odRu, .func (PySem.W.fnOf "read_run" "read_run" (defArgs sRu) (defBody sRu) (defScope sRu) .none kVRu dcRu pmRu anRu cdRu ctRu), slRu⟩) (cRu : PySem.W.codeIn K cdRu "read_run" = true) (kRu : PySem.W.keepIn K (.ref fRu) = true)
    {fRp : Addr} {odRp anRp : Option Addr} {slRp : Array (Option Value)} {ocRp kVRp dcRp pmRp cdRp ctRp : Value}
    (aRp : PySem.W.nsIn K mainGlobals "read_plan" = some (some (.ref fRp))) (lRp : K.lookup fRp = some ⟨ocRp, odRp, .func (PySem.W.fnOf "read_plan" "read_plan" (defArgs sRp) (defBody sRp) (defScope sRp) .none kVRp dcRp pmRp anRp cdRp ctRp), slRp⟩) (cRp : PySem.W.codeIn K cdRp "read_plan" = true) (kRp : PySem.W.keepIn K (.ref fRp) = true)
    {fRd : Addr} {odRd anRd : Option Addr} {slRd : Array (Option Value)} {ocRd kVRd dcRd pmRd ctRd : Value}
    {coRd ptRd : Addr}
    (aRd : PySem.W.nsIn K mainGlobals "_law_read_right" = some (some (.ref fRd))) (lRd : K.lookup fRd = some ⟨ocRd, odRd, .func (PySem.W.fnOf "_law_read_right" "_law_read_right" (defArgs sRd) (defBody sRd) (defScope sRd) .none kVRd dcRd pmRd anRd (.ref coRd) ctRd), slRd⟩) (cRd : PySem.W.codeIn K (.ref coRd) "_law_read_right" = true) (kRd : PySem.W.keepIn K (.ref fRd) = true)
    (tRd : h.get? ptRd = some tabO ∧ PySem.W.codeHdIn K coRd ptRd = true ∧ K.lookup ptRd = none)
    {fRi : Addr} {odRi anRi : Option Addr} {slRi : Array (Option Value)} {ocRi kVRi dcRi pmRi cdRi ctRi : Value}
    (aRi : PySem.W.nsIn K mainGlobals "_law_right" = some (some (.ref fRi))) (lRi : K.lookup fRi = some ⟨ocRi, odRi, .func (PySem.W.fnOf "_law_right" "_law_right" (defArgs sRi) (defBody sRi) (defScope sRi) .none kVRi dcRi pmRi anRi cdRi ctRi), slRi⟩) (cRi : PySem.W.codeIn K cdRi "_law_right" = true) (kRi : PySem.W.keepIn K (.ref fRi) = true)
    {fLaw : Addr} {odLaw anLaw : Option Addr} {slLaw : Array (Option Value)} {ocLaw kVLaw dcLaw pmLaw cdLaw ctLaw : Value}
    (aLaw : PySem.W.nsIn K mainGlobals "law" = some (some (.ref fLaw))) (lLaw : K.lookup fLaw = some ⟨ocLaw, odLaw, .func (PySem.W.fnOf "law" "law" (defArgs sLaw) (defBody sLaw) (defScope sLaw) .none kVLaw dcLaw pmLaw anLaw cdLaw ctLaw), slLaw⟩) (cLaw : PySem.W.codeIn K cdLaw "law" = true) (kLaw : PySem.W.keepIn K (.ref fLaw) = true)
    {tMOST_FIGURES : Tok} (aMOST_FIGURES : PySem.W.nsIn K mainGlobals "MOST_FIGURES" = some (some (.int 30 tMOST_FIGURES)))
    {tFIGURES : Tok} (aFIGURES : PySem.W.nsIn K mainGlobals "FIGURES" = some (some (.str "0123456789" tFIGURES)))
    {tMOST_PLACES : Tok} (aMOST_PLACES : PySem.W.nsIn K mainGlobals "MOST_PLACES" = some (some (.int 12 tMOST_PLACES)))
    {tABOVE_THIRTY_FIGURES : Tok} (aABOVE_THIRTY_FIGURES : PySem.W.nsIn K mainGlobals "ABOVE_THIRTY_FIGURES" = some (some (.int (10 ^ 30) tABOVE_THIRTY_FIGURES)))
    (aCG : PySem.W.nsIn K mainGlobals "GiftError" = some (some (.ref CG)))
    (aD0 : PySem.W.nsIn K mainGlobals "NoRow" = some (some (.ref D0)))
    (aD1 : PySem.W.nsIn K mainGlobals "NoDeed" = some (some (.ref D1)))
    (aD2 : PySem.W.nsIn K mainGlobals "TooGreat" = some (some (.ref D2)))
    (aD3 : PySem.W.nsIn K mainGlobals "TooFew" = some (some (.ref D3)))
    (aD4 : PySem.W.nsIn K mainGlobals "NoBack" = some (some (.ref D4)))
    (aD5 : PySem.W.nsIn K mainGlobals "NoName" = some (some (.ref D5)))
    (aD6 : PySem.W.nsIn K mainGlobals "NoText" = some (some (.ref D6)))
    (aD7 : PySem.W.nsIn K mainGlobals "NoLine" = some (some (.ref D7)))
    (xD6 : PySem.W.excIn K D6 [.type "ValueError", .type "Exception", .type "BaseException", .type "object"] "ValueError.__new__" = true)
    (kD6 : PySem.W.keepIn K (.ref D6) = true)
    (bD6 : PySem.W.subIn K (.ref D6) (.type "BaseException") = some true)
    (tD6 : PySem.W.typeIn K (.ref D6) = some (.type "type"))
    (hgD6 : PySem.W.findIn K (.ref D6) "__getattribute__" = some (some (.builtin "BaseException.__getattribute__")))
    (hkD6 : PySem.W.findIn K (.ref D6) "__getattr__" = some none)
    (hsD6 : PySem.W.subIn K (.ref D6) (.type "BaseException") = some true)
    (hdD6 : PySem.W.hasDictIn K D6 = true)
    (haD6 : PySem.W.findIn K (.ref D6) "__class__" = some (some (.builtin "object.__class__")))
    (hnD6 : PySem.W.specialIn K (.builtin "object.__class__") "__get__" = some (some (.builtin "getset_descriptor.__get__")))
    (htD6 : PySem.W.takesIn K (.builtin "object.__class__") = some true)
    (hmD6 : PySem.W.mroIn K D6 (.type "object") = some true)
    (exm : PySem.W.exmOne K (.ref D6) (.ref CG) = some true)
    (val : PySem.W.kitOne K (.ref D6) (.type "ValueError") = some true)
    (kt0 : PySem.W.kitOne K (.ref D6) (.ref D0) = some false)
    (kt1 : PySem.W.kitOne K (.ref D6) (.ref D1) = some false)
    (kt2 : PySem.W.kitOne K (.ref D6) (.ref D2) = some false)
    (kt3 : PySem.W.kitOne K (.ref D6) (.ref D3) = some false)
    (kt4 : PySem.W.kitOne K (.ref D6) (.ref D4) = some false)
    (kt5 : PySem.W.kitOne K (.ref D6) (.ref D5) = some false)
    (kt6 : PySem.W.kitOne K (.ref D6) (.ref D6) = some true)
    (kt7 : PySem.W.kitOne K (.ref D6) (.ref D7) = some false)
    (z_ValueError : PySem.W.nsIn K mainGlobals "ValueError" = some none)
    (z_abs : PySem.W.nsIn K mainGlobals "abs" = some none)
    (z_all : PySem.W.nsIn K mainGlobals "all" = some none)
    (z_bool : PySem.W.nsIn K mainGlobals "bool" = some none)
    (z_int : PySem.W.nsIn K mainGlobals "int" = some none)
    (z_isinstance : PySem.W.nsIn K mainGlobals "isinstance" = some none)
    (z_len : PySem.W.nsIn K mainGlobals "len" = some none)
    (z_list : PySem.W.nsIn K mainGlobals "list" = some none)
    (z_max : PySem.W.nsIn K mainGlobals "max" = some none)
    (z_min : PySem.W.nsIn K mainGlobals "min" = some none)
    (z_range : PySem.W.nsIn K mainGlobals "range" = some none)
    (z_repr : PySem.W.nsIn K mainGlobals "repr" = some none)
    (z_str : PySem.W.nsIn K mainGlobals "str" = some none)
    (z_sum : PySem.W.nsIn K mainGlobals "sum" = some none)
    (z_tuple : PySem.W.nsIn K mainGlobals "tuple" = some none)
    : ∃ (fd : FuncData) (cs : List (Addr × Addr)) (sp : Sp), (∀ p ∈ cs, h.get? p.2 = some tabO) ∧ (∀ p ∈ cs, K.lookup p.2 = none) ∧ (∀ p ∈ cs, PySem.W.CodeHd h p.1 p.2) ∧ (∀ (s : Shared) (v : Value), BindsTo s fd ⟨[v], []⟩ [("_law_script", v)]) ∧
      (∀ (H : Hp) (a : Addr) (ns : List Int), ns.length ≤ 63 → (∀ p ∈ cs, H p.2 = some (.tbl #[])) → SqL K H a (ns.map V.int) → sp [.ref a] H (fun v _ => v = .bl true) fun _ _ _ => False) ∧
      ∀ base : Heap, K.In base → base.Ns mainGlobals mg → SysD base → (∀ p ∈ cs, TabB base mg p.1 p.2) → FnG l.prog w K mg base 10 fa fd ["_law_script"] sp := by
  have e := hfa.symm.trans (PySem.W.mg_of X G aLaw)
  cases e
  have FSaid := fun_mk (st := sSaid) lSaid cSaid kSaid
  have bSaid := FSaid.binds (ps := ["_law_deed"]) fun _ _ _ _ _ _ us hl => match us, hl with | [_], _ => rfl
  have gSaid := PySem.W.mg_of X G aSaid
  have FBox := fun_mk (st := sBox) lBox cBox kBox
  have bBox := FBox.binds (ps := ["_law_script", "_law_k"]) fun _ _ _ _ _ _ us hl => match us, hl with | [_, _], _ => rfl
  have gBox := PySem.W.mg_of X G aBox
  have FTake := fun_mk (st := sTake) lTake cTake kTake
  have bTake := FTake.binds (ps := ["_law_box_here", "_law_many"]) fun _ _ _ _ _ _ us hl => match us, hl with | [_, _], _ => rfl
  have gTake := PySem.W.mg_of X G aTake
  have FOf := fun_mk (st := sOf) lOf cOf kOf
  have bOf := FOf.binds (ps := ["_law_box_here", "_law_some"]) fun _ _ _ _ _ _ us hl => match us, hl with | [_, _], _ => rfl
  have gOf := PySem.W.mg_of X G aOf
  have FNum := fun_mk (st := sNum) lNum cNum kNum
  have bNum := FNum.binds (ps := ["_law_box_here"]) fun _ _ _ _ _ _ us hl => match us, hl with | [_], _ => rfl
  have gNum := PySem.W.mg_of X G aNum
  have FAr := fun_mk (st := sAr) lAr cAr kAr
  have bAr := FAr.binds (ps := ["_law_box_here"]) fun _ _ _ _ _ _ us hl => match us, hl with | [_], _ => rfl
  have gAr := PySem.W.mg_of X G aAr
  have FPln := fun_mk (st := sPln) lPln cPln kPln
  have bPln := FPln.binds (ps := ["_law_box_here"]) fun _ _ _ _ _ _ us hl => match us, hl with | [_], _ => rfl
  have gPln := PySem.W.mg_of X G aPln
  have FRt := fun_mk (st := sRt) lRt cRt kRt
  have bRt := FRt.binds (ps := ["_law_row"]) fun _ _ _ _ _ _ us hl => match us, hl with | [_], _ => rfl
  have gRt := PySem.W.mg_of X G aRt
  have FPtx := fun_mk (st := sPtx) lPtx cPtx kPtx
  have bPtx := FPtx.binds (ps := ["_law_plan_here"]) fun _ _ _ _ _ _ us hl => match us, hl with | [_], _ => rfl
  have gPtx := PySem.W.mg_of X G aPtx
  have FBe := fun_mk (st := sBe) lBe cBe kBe
  have bBe := FBe.binds (ps := ["_law_box_here", "_law_text"]) fun _ _ _ _ _ _ us hl => match us, hl with | [_, _], _ => rfl
  have gBe := PySem.W.mg_of X G aBe
  have FTh := fun_mk (st := sTh) lTh cTh kTh
  have bTh := FTh.binds (ps := ["_law_box_here", "_law_text"]) fun _ _ _ _ _ _ us hl => match us, hl with | [_, _], _ => rfl
  have gTh := PySem.W.mg_of X G aTh
  have FNo := fun_mk (st := sNo) lNo cNo kNo
  have bNo := FNo.binds (ps := ["_law_text"]) fun _ _ _ _ _ _ us hl => match us, hl with | [_], _ => rfl
  have gNo := PySem.W.mg_of X G aNo
  have FRo := fun_mk (st := sRo) lRo cRo kRo
  have bRo := FRo.binds (ps := ["_law_text"]) fun _ _ _ _ _ _ us hl => match us, hl with | [_], _ => rfl
  have gRo := PySem.W.mg_of X G aRo
  have FUo := fun_mk (st := sUo) lUo cUo kUo
  have bUo := FUo.binds (ps := ["_law_text"]) fun _ _ _ _ _ _ us hl => match us, hl with | [_], _ => rfl
  have gUo := PySem.W.mg_of X G aUo
  have FPo := fun_mk (st := sPo) lPo cPo kPo
  have bPo := FPo.binds (ps := ["_law_text"]) fun _ _ _ _ _ _ us hl => match us, hl with | [_], _ => rfl
  have gPo := PySem.W.mg_of X G aPo
  have FWd := fun_mk (st := sWd) lWd cWd kWd
  have bWd := FWd.binds (ps := ["text"]) fun _ _ _ _ _ _ us hl => match us, hl with | [_], _ => rfl
  have gWd := PySem.W.mg_of X G aWd
  have FOs := fun_mk (st := sOs) lOs cOs kOs
  have bOs := FOs.binds (ps := ["text", "signs"]) fun _ _ _ _ _ _ us hl => match us, hl with | [_, _], _ => rfl
  have gOs := PySem.W.mg_of X G aOs
  have FIn := fun_mk (st := sIn) lIn cIn kIn
  have bIn := FIn.binds (ps := ["text"]) fun _ _ _ _ _ _ us hl => match us, hl with | [_], _ => rfl
  have gIn := PySem.W.mg_of X G aIn
  have FRn := fun_mk (st := sRn) lRn cRn kRn
  have bRn := FRn.binds (ps := ["text"]) fun _ _ _ _ _ _ us hl => match us, hl with | [_], _ => rfl
  have gRn := PySem.W.mg_of X G aRn
  have FWhole := fun_mk (st := sWhole) lWhole cWhole kWhole
  have bWhole := FWhole.binds (ps := ["thing"]) fun _ _ _ _ _ _ us hl => match us, hl with | [_], _ => rfl
  have gWhole := PySem.W.mg_of X G aWhole
  have FRow := fun_mk (st := sRow) lRow cRow kRow
  have bRow := FRow.binds (ps := ["thing"]) fun _ _ _ _ _ _ us hl => match us, hl with | [_], _ => rfl
  have gRow := PySem.W.mg_of X G aRow
  have FRr := fun_mk (st := sRr) lRr cRr kRr
  have bRr := FRr.binds (ps := ["text"]) fun _ _ _ _ _ _ us hl => match us, hl with | [_], _ => rfl
  have gRr := PySem.W.mg_of X G aRr
  have FRu := fun_mk (st := sRu) lRu cRu kRu
  have bRu := FRu.binds (ps := ["word"]) fun _ _ _ _ _ _ us hl => match us, hl with | [_], _ => rfl
  have gRu := PySem.W.mg_of X G aRu
  have FRp := fun_mk (st := sRp) lRp cRp kRp
  have bRp := FRp.binds (ps := ["text"]) fun _ _ _ _ _ _ us hl => match us, hl with | [_], _ => rfl
  have gRp := PySem.W.mg_of X G aRp
  have FRd := fun_mk (st := sRd) lRd cRd kRd
  have bRd := FRd.binds (ps := ["_law_thing_here"]) fun _ _ _ _ _ _ us hl => match us, hl with | [_], _ => rfl
  have gRd := PySem.W.mg_of X G aRd
  have FRi := fun_mk (st := sRi) lRi cRi kRi
  have bRi := FRi.binds (ps := ["_law_box_here"]) fun _ _ _ _ _ _ us hl => match us, hl with | [_], _ => rfl
  have gRi := PySem.W.mg_of X G aRi
  have FLaw := fun_mk (st := sLaw) lLaw cLaw kLaw
  have gMOST_FIGURES := PySem.W.mg_of X G aMOST_FIGURES
  have gFIGURES := PySem.W.mg_of X G aFIGURES
  have gMOST_PLACES := PySem.W.mg_of X G aMOST_PLACES
  have gABOVE_THIRTY_FIGURES := PySem.W.mg_of X G aABOVE_THIRTY_FIGURES
  have gCG := PySem.W.mg_of X G aCG
  have gD0 := PySem.W.mg_of X G aD0
  have gD1 := PySem.W.mg_of X G aD1
  have gD2 := PySem.W.mg_of X G aD2
  have gD3 := PySem.W.mg_of X G aD3
  have gD4 := PySem.W.mg_of X G aD4
  have gD5 := PySem.W.mg_of X G aD5
  have gD6 := PySem.W.mg_of X G aD6
  have gD7 := PySem.W.mg_of X G aD7
  have m_ValueError := PySem.W.mg_none_of X G z_ValueError
  have m_abs := PySem.W.mg_none_of X G z_abs
  have m_all := PySem.W.mg_none_of X G z_all
  have m_bool := PySem.W.mg_none_of X G z_bool
  have m_int := PySem.W.mg_none_of X G z_int
  have m_isinstance := PySem.W.mg_none_of X G z_isinstance
  have m_len := PySem.W.mg_none_of X G z_len
  have m_list := PySem.W.mg_none_of X G z_list
  have m_max := PySem.W.mg_none_of X G z_max
  have m_min := PySem.W.mg_none_of X G z_min
  have m_range := PySem.W.mg_none_of X G z_range
  have m_repr := PySem.W.mg_none_of X G z_repr
  have m_str := PySem.W.mg_none_of X G z_str
  have m_sum := PySem.W.mg_none_of X G z_sum
  have m_tuple := PySem.W.mg_none_of X G z_tuple
  refine ⟨PySem.W.fnOf "law" "law" (defArgs sLaw) (defBody sLaw) (defScope sLaw) .none kVLaw dcLaw pmLaw anLaw cdLaw ctLaw, [(coRd, ptRd)], spLaw K ptRd, (List.forall_mem_cons.mpr ⟨tRd.1, fun _ z => nomatch z⟩), (List.forall_mem_cons.mpr ⟨tRd.2.2, fun _ z => nomatch z⟩), (List.forall_mem_cons.mpr ⟨PySem.W.codeHd_of_K X tRd.2.1, fun _ z => nomatch z⟩), fun s v => .of_eq rfl, fun H a ns hl hT hS => ⟨a, ns, rfl, hS, hl, (fun p hp => by rw [List.mem_singleton.mp hp]; exact TabS.nil (hT _ List.mem_cons_self)), fun _ => rfl⟩, fun base _ _ sys tb => ?_⟩
  have BRd : TabB base mg coRd ptRd := tb _ List.mem_cons_self
  have C8 : Eight K mg CG D0 D1 D2 D3 D4 D5 D6 D7 := ⟨gCG, gD0, gD1, gD2, gD3, gD4, gD5, gD6, gD7⟩
  have KD : IsKind K CG D0 D1 D2 D3 D4 D5 D6 D7 6 D6 := ⟨by decide, exm, ⟨hgD6, hkD6, hsD6, hdD6, haD6, hnD6, htD6, hmD6⟩, val, kt0, kt1, kt2, kt3, kt4, kt5, kt6, kt7⟩
  have XNoText : ExcF K mg "NoText" D6 := ⟨gD6, xD6, kD6, bD6, tD6⟩
  have GBox := ok_box (P := l.prog) (w := w) (mg := mg) (base := base) (k := 0) FBox m_len m_abs m_int
  have GTake := ok_take (P := l.prog) (w := w) (mg := mg) (base := base) (k := 0) FTake
  have GOf := ok_of (P := l.prog) (w := w) (mg := mg) (base := base) (k := 0) FOf FTake bTake gTake m_len
  have GNum := ok_num (P := l.prog) (w := w) (mg := mg) (base := base) (k := 0) FNum FTake bTake gTake FOf bOf gOf m_len
  have GAr := ok_ar (P := l.prog) (w := w) (mg := mg) (base := base) (k := 0) FAr FTake bTake gTake FOf bOf gOf FNum bNum gNum GNum m_len m_range m_sum m_tuple
  have GPln := ok_pln (P := l.prog) (w := w) (mg := mg) (base := base) (k := 0) FPln FTake bTake gTake FOf bOf gOf FNum bNum gNum GNum m_len m_range m_tuple
  have GRt := ok_rt (P := l.prog) (w := w) (mg := mg) (base := base) (k := 0) FRt m_str
  have GPtx := ok_ptx (P := l.prog) (w := w) (mg := mg) (base := base) (k := 0) FPtx m_str
  have GBe := ok_be (P := l.prog) (w := w) (mg := mg) (base := base) (k := 0) FBe FTake bTake gTake FOf bOf gOf m_len m_int
  have GTh := ok_th (P := l.prog) (w := w) (mg := mg) (base := base) (k := 0) FTh FTake bTake gTake FOf bOf gOf m_len
  have GNo := ok_no (P := l.prog) (w := w) (mg := mg) (base := base) (k := 0) FNo m_len m_all m_int
  have GRo := ok_ro (P := l.prog) (w := w) (mg := mg) (base := base) (k := 0) FRo FNo bNo gNo GNo m_len m_min m_sum m_tuple
  have GUo := ok_uo (P := l.prog) (w := w) (mg := mg) (base := base) (k := 0) FUo FNo bNo gNo GNo m_len
  have GPo := ok_po (P := l.prog) (w := w) (mg := mg) (base := base) (k := 0) FPo FUo bUo gUo GUo m_tuple
  have GWd := ok_wd (P := l.prog) (w := w) (mg := mg) (base := base) (k := 0) FWd XNoText m_isinstance m_str
  have GOs := ok_os (P := l.prog) (w := w) (mg := mg) (base := base) (k := 0) FOs m_all
  have GIn := ok_in (P := l.prog) (w := w) (mg := mg) (base := base) (k := 0) FIn FOs bOs gOs gMOST_FIGURES gFIGURES m_all m_len
  have GRn := ok_rn (P := l.prog) (w := w) (mg := mg) (base := base) (k := 0) FRn XNoText FIn bIn gIn GIn m_int
  have GWhole := ok_whole (P := l.prog) (w := w) (mg := mg) (base := base) (k := 0) FWhole m_isinstance m_int m_bool
  have GRow := ok_row (P := l.prog) (w := w) (mg := mg) (base := base) (k := 0) FRow FWhole bWhole gWhole gMOST_PLACES gABOVE_THIRTY_FIGURES m_isinstance m_int m_bool m_tuple m_all m_sum m_len
  have GRr := ok_rr (P := l.prog) (w := w) (mg := mg) (base := base) (k := 0) FRr XNoText FWd bWd gWd GWd FRn bRn gRn GRn FRow bRow gRow GRow m_tuple
  have GRu := ok_ru (P := l.prog) (w := w) (mg := mg) (base := base) (k := 0) FRu XNoText FRn bRn gRn GRn gMOST_PLACES
  have GRp := ok_rp (P := l.prog) (w := w) (mg := mg) (base := base) (k := 0) FRp FWd bWd gWd GWd FRu bRu gRu GRu m_tuple
  have GRd := ok_rd (P := l.prog) (w := w) (mg := mg) (base := base) (k := 0) sys FRd rfl BRd FRo bRo gRo GRo FPo bPo gPo GPo FSaid bSaid gSaid C8 KD FRr bRr gRr GRr FRp bRp gRp GRp m_repr m_sum m_int m_str m_isinstance m_ValueError
  have GRi := ok_ri (P := l.prog) (w := w) (mg := mg) (base := base) (k := 0) FRi FTake bTake gTake FAr bAr gAr GAr FPln bPln gPln GPln FRt bRt gRt GRt FPtx bPtx gPtx GPtx FBe bBe gBe GBe FTh bTh gTh GTh FRd bRd gRd GRd m_range m_list m_all
  exact ok_law (k := 0) FLaw FBox bBox gBox GBox FRi bRi gRi GRi m_len m_min m_max m_range m_all
end K61
open PySem PySem.W PyProof.Rows
set_option maxHeartbeats 0 in
theorem PySem.Challenge.cw_matchgift_k61_texts_changed_anywhere_holds : PySem.Challenge.rw_matchgift_k61_texts_changed_anywhere.Holds := by
  w_on; o_law; k_head; (case hw => w_witness2)
  k_fill
  refine MG.walkGT (l := PySem.Challenge.rw_matchgift_k61_texts_changed_anywhere) (n := 63) (k := 10) (x := "_law_script") rfl (by decide) rfl ⟨rfl, by decide, by decide⟩ (by decide +kernel) (fun w h Y => PySem.W.km_in_of Y) ?F
  case F =>
    intro w mg fa h Y KX G hmg
    refine' K61.all_mk KX G hmg ?aSaid ?lSaid ?cSaid ?kSaid ?aBox ?lBox ?cBox ?kBox ?aTake ?lTake ?cTake ?kTake ?aOf ?lOf ?cOf ?kOf ?aNum ?lNum ?cNum ?kNum ?aAr ?lAr ?cAr ?kAr ?aPln ?lPln ?cPln ?kPln ?aRt ?lRt ?cRt ?kRt ?aPtx ?lPtx ?cPtx ?kPtx ?aBe ?lBe ?cBe ?kBe ?aTh ?lTh ?cTh ?kTh ?aNo ?lNo ?cNo ?kNo ?aRo ?lRo ?cRo ?kRo ?aUo ?lUo ?cUo ?kUo ?aPo ?lPo ?cPo ?kPo ?aWd ?lWd ?cWd ?kWd ?aOs ?lOs ?cOs ?kOs ?aIn ?lIn ?cIn ?kIn ?aRn ?lRn ?cRn ?kRn ?aWhole ?lWhole ?cWhole ?kWhole ?aRow ?lRow ?cRow ?kRow ?aRr ?lRr ?cRr ?kRr ?aRu ?lRu ?cRu ?kRu ?aRp ?lRp ?cRp ?kRp ?aRd ?lRd ?cRd ?kRd ?tRd ?aRi ?lRi ?cRi ?kRi ?aLaw ?lLaw ?cLaw ?kLaw ?aMOST_FIGURES ?aFIGURES ?aMOST_PLACES ?aABOVE_THIRTY_FIGURES ?aCG ?aD0 ?aD1 ?aD2 ?aD3 ?aD4 ?aD5 ?aD6 ?aD7 ?xD6 ?kD6 ?bD6 ?tD6 ?hgD6 ?hkD6 ?hsD6 ?hdD6 ?haD6 ?hnD6 ?htD6 ?hmD6 ?exm ?val ?kt0 ?kt1 ?kt2 ?kt3 ?kt4 ?kt5 ?kt6 ?kt7 ?z_ValueError ?z_abs ?z_all ?z_bool ?z_int ?z_isinstance ?z_len ?z_list ?z_max ?z_min ?z_range ?z_repr ?z_str ?z_sum ?z_tuple
    (case aCG => k_is); (case aD0 => k_is); (case aD1 => k_is); (case aD2 => k_is); (case aD3 => k_is); (case aD4 => k_is); (case aD5 => k_is); (case aD6 => k_is); (case aD7 => k_is); (case aSaid => k_is); (case lSaid => k_is); (case cSaid => k_is); (case kSaid => k_is); (case aBox => k_is); (case lBox => k_is); (case cBox => k_is); (case kBox => k_is); (case aTake => k_is); (case lTake => k_is); (case cTake => k_is); (case kTake => k_is); (case aOf => k_is); (case lOf => k_is); (case cOf => k_is); (case kOf => k_is); (case aNum => k_is); (case lNum => k_is); (case cNum => k_is); (case kNum => k_is); (case aAr => k_is); (case lAr => k_is); (case cAr => k_is); (case kAr => k_is); (case aPln => k_is); (case lPln => k_is); (case cPln => k_is); (case kPln => k_is); (case aRt => k_is); (case lRt => k_is); (case cRt => k_is); (case kRt => k_is); (case aPtx => k_is); (case lPtx => k_is); (case cPtx => k_is); (case kPtx => k_is); (case aBe => k_is); (case lBe => k_is); (case cBe => k_is); (case kBe => k_is); (case aTh => k_is); (case lTh => k_is); (case cTh => k_is); (case kTh => k_is); (case aNo => k_is); (case lNo => k_is); (case cNo => k_is); (case kNo => k_is); (case aRo => k_is); (case lRo => k_is); (case cRo => k_is); (case kRo => k_is); (case aUo => k_is); (case lUo => k_is); (case cUo => k_is); (case kUo => k_is); (case aPo => k_is); (case lPo => k_is); (case cPo => k_is); (case kPo => k_is); (case aWd => k_is); (case lWd => k_is); (case cWd => k_is); (case kWd => k_is); (case aOs => k_is); (case lOs => k_is); (case cOs => k_is); (case kOs => k_is); (case aIn => k_is); (case lIn => k_is); (case cIn => k_is); (case kIn => k_is); (case aRn => k_is); (case lRn => k_is); (case cRn => k_is); (case kRn => k_is); (case aWhole => k_is); (case lWhole => k_is); (case cWhole => k_is); (case kWhole => k_is); (case aRow => k_is); (case lRow => k_is); (case cRow => k_is); (case kRow => k_is); (case aRr => k_is); (case lRr => k_is); (case cRr => k_is); (case kRr => k_is); (case aRu => k_is); (case lRu => k_is); (case cRu => k_is); (case kRu => k_is); (case aRp => k_is); (case lRp => k_is); (case cRp => k_is); (case kRp => k_is); (case aRd => k_is); (case lRd => k_is); (case cRd => k_is); (case kRd => k_is); (case tRd => first | exact ⟨PySem.W.km_tabs_of Y _ List.mem_cons_self, by kernel_rfl, by kernel_rfl⟩); (case aRi => k_is); (case lRi => k_is); (case cRi => k_is); (case kRi => k_is); (case aLaw => k_is); (case lLaw => k_is); (case cLaw => k_is); (case kLaw => k_is); (case aMOST_FIGURES => k_is); (case aFIGURES => k_is); (case aMOST_PLACES => k_is); (case aABOVE_THIRTY_FIGURES => k_is); (case xD6 => k_exc); (case kD6 => k_is); (case bD6 => k_is); (case tD6 => k_is); (case hgD6 => k_is); (case hkD6 => k_is); (case hsD6 => k_is); (case hdD6 => k_is); (case haD6 => k_is); (case hnD6 => k_is); (case htD6 => k_is); (case hmD6 => k_is); (case exm => first | k_is | rfl | kernel_rfl); (case val => first | k_is | rfl | kernel_rfl); (case kt0 => first | k_is | rfl | kernel_rfl); (case kt1 => first | k_is | rfl | kernel_rfl); (case kt2 => first | k_is | rfl | kernel_rfl); (case kt3 => first | k_is | rfl | kernel_rfl); (case kt4 => first | k_is | rfl | kernel_rfl); (case kt5 => first | k_is | rfl | kernel_rfl); (case kt6 => first | k_is | rfl | kernel_rfl); (case kt7 => first | k_is | rfl | kernel_rfl); (case z_ValueError => k_is); (case z_abs => k_is); (case z_all => k_is); (case z_bool => k_is); (case z_int => k_is); (case z_isinstance => k_is); (case z_len => k_is); (case z_list => k_is); (case z_max => k_is); (case z_min => k_is); (case z_range => k_is); (case z_repr => k_is); (case z_str => k_is); (case z_sum => k_is); (case z_tuple => k_is)
