import PyProof.Rows.All
import Wide.All
import OpenK.AllK
import Wide.FinOn
import PySem.Challenge.RW_matchgift_k15_clauses_broken
import HandS.ForMost
import HandS.IsInst
import HandS.TupAny
import HandS.TupMul
import HandS.Wide
import HandS.Flow
import HandS.RaiseMore
import PyProof.ReprRoads
import KE.GoesNew
import KE.KTupSum
import HandS.Walk
import HandS.WideBits
import PyProof.Rows.BitMore
import HandS.Zip
import HandS.Style
set_option Elab.async false
set_option linter.all false
set_option maxRecDepth 100000
set_option maxHeartbeats 2000000
/-! MG: promises of defs that are called where no repr is under way, and repr of data by them. -/
namespace MG
open PySem PySem.Spec PyProof.Rows L2

structure FnG (P : Program) (w : World) (K : PySem.W.Frag) (mg : Str → Option Value) (base : Heap) (k : Nat)
    (f : Addr) (fd : FuncData) (ps : List Str) (sp : Sp) : Prop where
  len : ∀ vs H Q E, sp vs H Q E → vs.length = ps.length
  run : ∀ (A : Around) (outer : List Env) (s : Shared) (H : Hp) (args : Args) (us : List Value) (vs : List V) (Q : VK) (E : XK),
    A.guards = some [] → Room k A → Env0 P w K mg base A outer s H →
    BindsTo s fd args (ps.zip us) → Vals vs us → sp vs H Q E →
    codeAny (model P w) A (.call (.ref f) args) (CR CX0 outer P w H s Q E) s

section
variable {P : Program} {w : World} {K : PySem.W.Frag} {mg : Str → Option Value} {base : Heap}
theorem FnG.of {k : Nat} {f : Addr} {fd : FuncData} {ps : List Str} {sp : Sp}
    (F : FnOk P w K mg base CX0 k f fd ps sp) : FnG P w K mg base k f fd ps sp :=
  ⟨F.len, fun A outer s H args us vs Q E _ => F.run A outer s H args us vs Q E⟩

theorem okG {x qual : Str} {st : Stmt} {f : Addr} {fd : FuncData} {N ps : List Str} {k : Nat} {sp : Sp}
    (F : Fun K x qual st f fd) (S : FnScope N ps (defScope st))
    (hlen : ∀ vs H Q E, sp vs H Q E → vs.length = ps.length)
    (body : ∀ (cdv : Value) (A : Around) (outer : List Env) (s : Shared) (H : Hp) (vs : List V) (Q : VK) (E : XK),
      A.guards = some [] → Room k (A.deeper (envOfC qual (defScope st) s.heap.objs.size f cdv)) → sp vs H Q E →
      ∃ t, PSs (cxOf CX0 P w K mg base N qual (defScope st) f cdv A outer s H E).nox (defBody st) t ∧
        t { nx := fun _ H' => Q .non H', rt := Q } (start N vs) H) :
    FnG P w K mg base (k + 1) f fd ps sp := by
  obtain ⟨oc, od, kV, doc, pm, an, cdv, ct, osl, rfl, lk, hcd⟩ := F.ex
  refine ⟨hlen, ?_⟩
  intro A outer s H args us vs Q E gd room e0 bnd rel want
  have inK : K.In s.heap := e0.mod.kin.keeps (fun b o q => (e0.bs b o q).left)
  have noLim : s.heap.NoLimit := e0.mod.nolimit.keeps (fun b o q => (e0.bs b o q).left)
  refine codeAny_call_function room.depth (inK _ _ lk) rfl S.co S.gen rfl
    (PySem.W.codeRec_of inK hcd) (bnd _ _ _ _ ?_)
  refine wpAny_newFunctionEnv_cells S.kind ?_ ?_
  · rintro ⟨n, v⟩ hy
    rcases S.par n (List.of_mem_zip hy).1 with loc | cel
    · exact Or.inl loc
    · exact Or.inr ⟨cel, PySem.W.cellsFrom_some _ _ _ (Or.inl cel)⟩
  · intro env he s1 x
    subst he
    refine ⟨noLim.keeps x.toInCall.keep, codeAny_func ?_⟩
    obtain ⟨t, ht0, hq⟩ := body cdv A outer s H vs Q E gd (room.deeper _) want
    have ht := ht0.nox
    have I := inv_start (CX := CX0) (N := N) (qual := qual) (f := f) (cd := cdv) (E := E) S room.hd e0 (hlen _ _ _ _ want) rel x
    refine wpAny_mono (ht.run [] s1 (start N vs) H _ I hq) ?_ (fun _ _ z => z)
    intro fl s' hs
    cases fl with
    | ret u =>
      obtain ⟨v, σ', H', J, rv, q⟩ := hs
      exact ⟨v, H', J.os, J.bare, J.base, J.hok, rv, q⟩
    | next =>
      obtain ⟨σ', H', J, q⟩ := hs
      exact ⟨V.non, H', J.os, J.bare, J.base, J.hok, rfl, q⟩
    | brk =>
      obtain ⟨_, _, _, q⟩ := hs
      exact q.elim
    | cont =>
      obtain ⟨_, _, _, q⟩ := hs
      exact q.elim
end

section
variable {X : Cx} {k : Nat} {f : Addr} {fd : FuncData} {ps : List Str} {sp : Sp} {E : XK} {x : Str} {p pos : Pos}
  {e : Expr} {es : List Expr} {t : TA}
/-- f(e, ..) of such a def -/
theorem pe_callG (F : FnG X.prog X.w X.K X.mg X.base k f fd ps sp) (gd : X.A.guards = some []) (hr : Room k X.A) (hg : Gl X x)
    (hm : X.mg x = some (.ref f)) (hk : PySem.W.keepIn X.K (.ref f) = true) (hb : Binds X.K fd ps []) (ha : PA X (e :: es) t)
    (hdb : (x == ("__debug__" : Str)) = false := by decide)
    (he : starEach (e :: es) X.env = (false, eval e X.env) :: starEach es X.env := by rfl)
    (hpl : (backTo pos (starEach es X.env)).any (·.1) = false := by rfl) :
    PE X (.Call (.Name x p) (e :: es) [] pos) (tCall sp [] E t) := by
  constructor
  intro pins s σ H Q I h
  refine wpAny_Call_Name_kw (ld_glob I hg hm ?_ hdb)
  refine PySem.W.callWith_K (h₀ := X.base) I.ok.mod.kin hk ?_ he hpl
  refine thn (ha.run pos pins s σ H _ I h) ?_
  rintro us s1 ⟨vs, H1, I1, r, q⟩
  refine ⟨I1.kIn, ?_⟩
  have q' : sp (vs ++ []) H1 Q E := q
  rw [List.append_nil] at q'
  have hl : us.length = ps.length := by
    rw [← r.length]
    exact F.len _ _ _ _ q'
  have hb' := hb s1 us I1.kIn (by simpa using hl)
  rw [List.append_nil] at hb'
  refine wpAny_call (codeAny_mono (F.run X.A X.stack s1 H1 ⟨us, []⟩ us vs Q E gd hr I1.env0 hb' r q') ?_)
  intro res s' hq
  cases res with
  | error e => exact False.elim hq
  | ok fl =>
    cases fl with
    | ret u => exact I1.after hq
    | next => exact False.elim hq
    | brk => exact False.elim hq
    | cont => exact False.elim hq
end
end MG

namespace MG
open PySem PySem.Spec PyProof.Rows L2

def SysD (h : Heap) : Prop := ∃ mm, h.Ns sysModules mm
theorem lawG {P : Program} {w : World} {K : PySem.W.Frag} {mg mb : Str → Option Value} {k : Nat} {fa a : Addr} {fd : FuncData} {x : Str}
    {sp : Sp} {s₁ : Shared} {vs : List Value} {ns : List Int}
    (KX : K.In s₁.heap) (hns : s₁.heap.Ns mainGlobals mg) (hb : s₁.heap.Ns builtinsNs mb)
    (hbb : ∀ x : Str, x ≠ "__name__" → mb x = bootBuiltins x) (hlim : s₁.heap.NoLimit) (hsys : SysD s₁.heap) (hg : s₁.gens = #[])
    (ha : s₁.heap.get? a = some { cls := .type "list", data := .seq vs.toArray }) (hi : IntsAre vs ns)
    (hl : ns.length ≤ sizeLine) (hr : Room k callerA)
    (F : ∀ base : Heap, K.In base → base.Ns mainGlobals mg → SysD base → FnG P w K mg base k fa fd [x] sp)
    (hbind : ∀ (s : Shared) (u : Value), BindsTo s fd ⟨[u], []⟩ [(x, u)])
    (hsp : ∀ H : Hp, Only H → SqL K H a (ns.map V.int) → sp [.ref a] H (fun v _ => v = .bl true) fun _ _ _ => False) :
    codeAny (model P w) callerA (.call (.ref fa) ⟨[.ref a], []⟩)
      (fun r s' => r = .ok (.ret (.bool true)) ∧ OldK s₁.heap s'.heap ∧ s'.os = s₁.os ∧ AllBare s'.gens) s₁ := by
  have rels := vals_ints hi
  have sizes := hi.length
  have go : ∀ H : Hp, Only H → SqL K H a (ns.map V.int) → HOk P w H s₁.heap → (∀ b, H b ≠ none → b = a) →
      (H a ≠ none → K.lookup a = none) →
      codeAny (model P w) callerA (.call (.ref fa) ⟨[.ref a], []⟩)
        (fun r s' => r = .ok (.ret (.bool true)) ∧ OldK s₁.heap s'.heap ∧ s'.os = s₁.os ∧ AllBare s'.gens) s₁ := by
    intro H only sq ok justA noK
    have dictFree : ∀ {b : Addr} {o : Obj} {es : Array DictEntry} {ep : Nat}, s₁.heap.get? b = some o → o.data = .dict es ep → H b = none := by
      intro b o es ep hget hdat
      cases hH : H b with
      | none => rfl
      | some u =>
        obtain rfl : b = a := justA b (by rw [hH]; exact fun z => nomatch z)
        rw [ha] at hget
        cases hget
        exact (nomatch (show Data.seq vs.toArray _ = Data.dict es ep from hdat))
    have nsHid : ∀ {b : Addr} {m : Str → Option Value}, s₁.heap.Ns b m → (hidT s₁.heap H).Ns b m := by
      rintro b m ⟨o, es, ep, h1, h2, h3⟩
      exact ⟨o, es, ep, hidT_get h1 (dictFree h1 h2), h2, h3⟩
    have kHid : K.In (hidT s₁.heap H) := by
      intro b o look
      refine hidT_get (KX b o look) ?_
      cases hH : H b with
      | none => rfl
      | some u =>
        obtain rfl : b = a := justA b (by rw [hH]; exact fun z => nomatch z)
        have z := noK (by rw [hH]; exact fun z => nomatch z)
        rw [z] at look
        cases look
    have modl : Mod K mg (hidT s₁.heap H) := by
      obtain ⟨mc, l1, l2⟩ := hlim
      exact ⟨kHid, nsHid hns, ⟨mb, nsHid hb, hbb⟩, ⟨mc, nsHid l1, l2⟩⟩
    have e0 : Env0 P w K mg (hidT s₁.heap H) callerA [] s₁ H :=
      { frames := rfl
        mod := modl
        bs := fun b o q => of_hidT q
        bsz := Nat.le_of_eq (hidT_size _ _)
        funs := trivial
        frf := fun b hb => absurd (show b ∈ ([] : List Addr) from hb) List.not_mem_nil
        hok := ok
        bare := .of_eq hg }
    refine codeAny_mono ((F _ kHid (nsHid hns) (let ⟨mm, q⟩ := hsys; ⟨mm, nsHid q⟩)).run callerA [] s₁ H ⟨[.ref a], []⟩ [.ref a] [.ref a] _ _ rfl hr e0
      (hbind s₁ (.ref a)) (.cons rfl .nil) (hsp H only sq)) ?_
    intro r s' h
    cases r with
    | error e => exact False.elim h
    | ok fl =>
      cases fl with
      | next => exact False.elim h
      | brk => exact False.elim h
      | cont => exact False.elim h
      | ret u =>
        obtain ⟨v, H', hos, hbare, un, ok', rel, q⟩ := h
        obtain rfl : v = .bl true := q
        obtain rfl : u = Value.bool true := rel
        refine ⟨rfl, OldK.of_keep ?_, hos, hbare⟩
        intro b o hget
        rcases only b with hn | ⟨ob, xs, hf⟩
        · exact un.keep b o hget hn (fun z => absurd (show b ∈ ([] : List Addr) from z) List.not_mem_nil) List.not_mem_nil
        · have q1 := (ok b _ hf).1
          have q2 := (ok' b _ (un.frzs b ob _ hf)).1
          rw [hget] at q1
          cases q1
          exact q2
  cases hk : K.lookup a with
  | none =>
    let ob : Obj := { cls := .type "list", data := .seq vs.toArray }
    let H : Hp := fun b => if b = a then some (.frz ob (.lst (ns.map V.int))) else none
    have atA : H a = some (.frz ob (.lst (ns.map V.int))) := if_pos rfl
    have off : ∀ b, b ≠ a → H b = none := fun b hb => if_neg hb
    refine go H ?_ (.inl (.inr ⟨ob, atA⟩)) ?_ ?_ (fun _ => hk)
    · intro b
      by_cases hb : b = a
      · subst hb; exact .inr ⟨_, _, atA⟩
      · exact .inl (off b hb)
    · intro b u z
      by_cases hb : b = a
      · subst hb
        rw [atA] at z
        cases z
        exact ⟨ha, by rw [List.length_map]; exact hl, vs, _, rels, ha⟩
      · rw [off b hb] at z
        cases z
    · intro b z
      by_cases hb : b = a
      · exact hb
      · exact absurd (off b hb) z
  | some o =>
    have e := KX a o hk
    rw [ha] at e
    cases e
    exact go (fun _ => none) (fun _ => .inl rfl)
      (.inr ⟨_, vs.toArray, _, hk, rfl, rfl, rfl, by rw [List.size_toArray, sizes]; exact hl, by simpa using rels⟩)
      (fun b u z => nomatch (show (none : Option HO) = some u from z)) (fun b z => absurd rfl z) (fun z => absurd rfl z)

theorem walkG {l : PySem.W.OpenLaw} {n k : Nat} {q : Program} {loose : List Str} {XP : (Str → Option Value) → Heap → Prop}
    {YP : World → Heap → Prop} {d : DefRec} {K : Params → PySem.W.Frag} {sp : PySem.W.Frag → Sp} {x : Str}
    (hn : l.most = some n) (hn2 : n ≤ sizeLine) (hdf : d.params.defaults = []) (hr : Room k callerA) (hq : importsNone q = true)
    (hY : ∀ (w : World) (h : Heap), YP w h → (K w.params).In h)
    (F : ∀ (w : World) (mg : Str → Option Value) (fa : Addr) (h : Heap), (K w.params).In h → h.Ns mainGlobals mg → mg d.name = some (.ref fa) →
      ∃ fd : FuncData, (∀ (s : Shared) (u : Value), BindsTo s fd ⟨[u], []⟩ [(x, u)]) ∧
        ∀ base : Heap, (K w.params).In base → base.Ns mainGlobals mg → SysD base → FnG l.prog w (K w.params) mg base k fa fd [x] (sp (K w.params)))
    (hsp : ∀ (K : PySem.W.Frag) (H : Hp) (a : Addr) (ns : List Int), ns.length ≤ n → Only H → SqL K H a (ns.map V.int) →
      sp K [.ref a] H (fun v _ => v = .bl true) fun _ _ _ => False) :
    PySem.W.WalkO q loose XP YP l.row.toRowW d [] (fun f vs => PySem.call f vs) := by
  refine Att.attach_call hn hdf ?_
  intro w s₀ s₁ mg mb fa o pm cd doc a vs ns G Y _ _ _ hmg hobj hints hlen hg
  have KX := hY w _ Y
  obtain ⟨fd, hbd, hF⟩ := F w mg fa _ KX G.T.g hmg
  exact lawG KX G.T.g G.T.b G.T.builtins G.T.nolimit (let ⟨mm, q, _⟩ := (G.T.seer hq).mods; ⟨mm, q⟩) hg hobj hints (Nat.le_trans hlen hn2) hr hF hbd
    (fun H hO hS => hsp _ H a ns hlen hO hS)
end MG

namespace MG
open PySem PySem.Spec PyProof.Rows L2

/-- behind enumerate(v): v's iterator, and who counts beside it -/
abbrev counts (g : Heap) (o : Obj) : Heap :=
  (g.push o).push { cls := .type "enumerate", data := .fields #[.none, .bool false, .ref g.objs.size, rawInt 0, .none, .none] }
theorem counts_new {v : Value} {o : Obj} {S : Heap → Prop} (B : Begins v o S) :
    PySem.Meets (Builtin.«enumerate.__new__» ⟨[.type "enumerate", v], []⟩) (fun _ R s =>
      S s.heap ∧ R (.ok (.ret (.ref (s.heap.push o).objs.size))) { s with heap := counts s.heap o }) := by
  refine .of_wp fun prog w A R s want => ?_
  obtain ⟨g, gens, drawn, tk, os⟩ := s
  have own := sub_enumerate
  have begun : ∀ {A' : Around} {Q E' : Value → Shared → Prop}, Q (.ref g.objs.size) ⟨g.push o, gens, drawn, tk, os⟩ →
      wpAny (model prog w) A' (pyIter v) Q E' ⟨g, gens, drawn, tk, os⟩ := fun q => B.iter _ _ _ _ _ _ want.1 q
  wp_walk using begun
  refine wpAny_stack_any fun top => wpAny_pure ?_
  split
  case h_1 c _ _ _ _ _ =>
    cases c == Value.type "enumerate" <;> (wp_walk using begun; exact ⟨_, rfl, want.2⟩)
  case h_2 =>
    wp_walk using begun
    exact ⟨_, rfl, want.2⟩
theorem counts_call {prog : Program} {w : World} {A : Around} {E : Value → Shared → Prop} {s : Shared} {v : Value} {o : Obj} {S : Heap → Prop}
    {Q : Value → Shared → Prop} (B : Begins v o S) (ready : S s.heap)
    (next : ∀ g, IsEnum g (s.heap.objs.size + 1) s.heap.objs.size 0 .none → g.get? s.heap.objs.size = some o →
      (∀ b u, s.heap.get? b = some u → g.get? b = some u) → Q (.ref (s.heap.objs.size + 1)) { s with heap := g }) :
    wpAny (model prog w) A (call (.type "enumerate") [v]) Q E s := by
  have up : (s.heap.push o).objs.size = s.heap.objs.size + 1 := Heap.size_push ..
  have first : (counts s.heap o).get? s.heap.objs.size = some o := Heap.get?_push_of_some _ (Heap.get?_push_size _ B.free)
  have second : (counts s.heap o).get? (s.heap.push o).objs.size = _ := Heap.get?_push_size _ rfl
  have rest : ∀ b u, s.heap.get? b = some u → (counts s.heap o).get? b = some u := fun _ _ at_ =>
    Heap.get?_push_of_some _ (Heap.get?_push_of_some _ at_)
  rw [up] at second
  refine callType_new F.called_enumerate (by decide) (F.typeCall_enumerate_1 v) (F.newCall_enumerate_1 v)
    (fun obj => F.args_object_init_2 obj v) F.entry_enumerate_new (counts_new B) ⟨ready, ?_⟩
  rw [up]
  exact ⟨⟨_, second, rfl⟩, next _ second first rest⟩
/-! ### walks that tell a new tuple each time -/
theorem not_tuple {g : Heap} {b c : Addr} {o : Obj} {items : Array Value} (t : IsTup g b items) (at_ : g.get? c = some o) (cls : o.cls ≠ .type "tuple") : b ≠ c := by
  obtain ⟨u, here, k, _⟩ := t
  intro e
  rw [e, at_] at here
  exact cls (by rw [Option.some.inj here]; exact k)
section told
variable {X : Cx} {pins : List (Addr × Obj)} {σ : L2.St} {H : Hp} {s : Shared} {ours : List Addr} {g : Heap} {tk : Nat}
/-- behind a walk's step: the tuple at T is new, our own objects are still nobody's -/
theorem told_new {T : Addr} {xs : List V} {us : List Value} (I : Inv X pins σ H s) (own : ∀ b ∈ ours, FpOk X pins H b)
    (live : ∀ b ∈ ours, ∃ o, s.heap.get? b = some o) (off : ∀ b o, b ∉ ours → s.heap.get? b = some o → g.get? b = some o)
    (new : s.heap.objs.size ≤ T) (made : IsTup g T us.toArray) (rel : Vals xs us) (few : xs.length ≤ sizeLine) :
    Inv X pins σ (upd H T (.tup xs)) { s with heap := g, toks := tk } ∧ H T = none ∧ ∀ b ∈ ours, upd H T (.tup xs) b = none :=
  ⟨I.turnedNew off own new ⟨few, us, rel, made⟩, I.hok.fresh new, fun b hb => by
    obtain ⟨o, at_⟩ := live b hb
    rw [upd_ne (Nat.ne_of_lt (Nat.lt_of_lt_of_le (Heap.lt_size at_) new))]
    exact (own b hb).1⟩
end told

/-! ### enumerate of a tuple -/
def IteT (K : PySem.W.Frag) (a : Addr) : It :=
  ⟨fun i H => ∃ (xs : List V) (x : V), SqT K H a xs ∧ xs[i]? = some x,
   fun i H v H' => ∃ T x, v = .ref T ∧ H T = none ∧ H' = upd H T (.tup [.int (i : Nat), x]) ∧ ∀ xs, SqT K H a xs → xs[i]? = some x,
   fun i H => ∃ xs : List V, SqT K H a xs ∧ xs.length = i⟩
/-- who counts at e, over the iterator at t of the tuple at a, i told -/
def EnT (a e t : Addr) (i : Nat) (g : Heap) : Prop := (∃ old, IsEnum g e t (i : Nat) old) ∧ g.IsTupleIter t a i ∧ e ≠ t
theorem EnT.live {a e t : Addr} {i : Nat} {g : Heap} (st : EnT a e t i g) : ∀ b ∈ [e, t], ∃ o, g.get? b = some o ∧ ∀ v, o.data ≠ .cell v := by
  obtain ⟨⟨old, he⟩, ⟨o, ho, _, dat⟩, _⟩ := st
  intro b hb
  cases hb with
  | head => exact ⟨_, he, fun v z => nomatch z⟩
  | tail _ hb =>
    obtain rfl := List.mem_singleton.mp hb
    exact ⟨o, ho, fun v z => nomatch (show Data.fields _ = Data.cell v from dat.symm.trans z)⟩
theorem turn_enumT {P : Program} {w : World} {K : PySem.W.Frag} {elts : List Expr} {kk : Nat} {tpos : Pos} (a e t : Addr) :
    Turn P w K (.Tuple elts kk tpos) (IteT K a) [e, t] e (EnT a e t) where
  mem := List.mem_cons_self
  obj := fun _ _ st => st.live
  keep := fun i g g' ⟨⟨old, he⟩, ht, ne⟩ k => ⟨⟨old, k e List.mem_cons_self _ he⟩, ht.at fun o => k t (List.mem_cons_of_mem _ List.mem_cons_self) o, ne⟩
  self := fun A i s Q E st q => by
    obtain ⟨⟨old, he⟩, _⟩ := st
    exact wpAny_pyIter_enum he q
  item := by
    intro X hP hw hK calm i pins s σ H E I own st go
    subst hP hw hK
    obtain ⟨xs, x, hq, hx⟩ := go
    obtain ⟨us, rel, tup, _⟩ := I.tuple hq
    obtain ⟨u, hu, ru⟩ := rel.get hx
    have live := st.live
    obtain ⟨⟨old, he⟩, ht, ne⟩ := st
    have at_ : a ≠ t := by
      obtain ⟨o, ho, cls, _⟩ := id ht
      exact not_tuple tup ho (by rw [cls]; decide)
    have ae : e ∉ [t, a] := by
      intro z
      cases z with
      | head => exact ne rfl
      | tail _ z => exact not_tuple tup he (by show Value.type "enumerate" ≠ .type "tuple"; decide) (List.mem_singleton.mp z).symm
    have walk := GoesN.enumFrom (elts := elts) (x1 := kk) (pos := tpos) 0
      (Draws.tuple (prog := X.prog) (w := X.w) (A := X.A.in1) (I.ok.hd calm) t a at_ us.toArray) e ne ae List.mem_cons_self
    refine walk.goes i s (fun v s2 => ∃ y H', Inv X pins σ H' s2 ∧ RelV y v ∧ (IteT X.K a).yld i H y H' ∧ EnT a e t (i + 1) s2.heap ∧ ∀ b ∈ [e, t], H' b = none) E
      ?_ ⟨⟨old, by rw [Int.zero_add]; exact he⟩, ht, tup⟩ ?_
    · rw [List.size_toArray]
      exact (List.getElem?_eq_some_iff.mp hu).1
    · rintro v g tk ⟨T, tok, y, rfl, new, hy, made⟩ ⟨⟨old2, he2⟩, ht2, _⟩ off _
      obtain rfl : y = u := Option.some.inj (by rw [← hu, ← hy, List.getElem?_toArray])
      rw [Int.zero_add] at made he2
      obtain ⟨J, free, none_⟩ := told_new (tk := tk) (xs := [.int (i : Nat), x]) (us := [.int i tok, y]) I own (fun b hb => let ⟨o, q, _⟩ := live b hb; ⟨o, q⟩) off new made
        (.cons ⟨tok, rfl⟩ (.cons ru .nil)) (by show 2 ≤ sizeLine; decide)
      exact ⟨.ref T, _, J, rfl, ⟨T, x, rfl, free, rfl, fun ys hy => by rw [I.tuple_inj hy hq]; exact hx⟩, ⟨⟨old2, he2⟩, ht2, ne⟩, none_⟩
  done := by
    intro X hP hw hK calm i pins s σ H E I own st go
    subst hP hw hK
    obtain ⟨xs, hq, rfl⟩ := go
    obtain ⟨us, rel, tup, _⟩ := I.tuple hq
    obtain ⟨⟨old, he⟩, ht, ne⟩ := st
    have at_ : a ≠ t := by
      obtain ⟨o, ho, cls, _⟩ := id ht
      exact not_tuple tup ho (by rw [cls]; decide)
    have ae : e ∉ [t, a] := by
      intro z
      cases z with
      | head => exact ne rfl
      | tail _ z => exact not_tuple tup he (by show Value.type "enumerate" ≠ .type "tuple"; decide) (List.mem_singleton.mp z).symm
    have walk := GoesN.enumFrom (elts := elts) (x1 := kk) (pos := tpos) 0
      (Draws.tuple (prog := X.prog) (w := X.w) (A := X.A.in1) (I.ok.hd calm) t a at_ us.toArray) e ne ae List.mem_cons_self
    have len : us.toArray.size = xs.length := by rw [List.size_toArray, rel.length]
    refine walk.stops s (fun s' => Inv X pins σ H s') E (by rw [len]; exact ⟨⟨old, by rw [Int.zero_add]; exact he⟩, ht, tup⟩) fun g tk off _ => I.turnedL (t' := tk) off own

def iEnumT (K : PySem.W.Frag) (ta : TA) : TI := fun σ H R => ta σ H fun vs H1 => ∃ a xs, vs = [.ref a] ∧ SqT K H1 a xs ∧ R (IteT K a) H1
theorem pi_enumT {X : Cx} {e : Expr} {ta : TA} {p pos tpos : Pos} {elts : List Expr} {kk : Nat} (hg : Gl X "enumerate")
    (hm : X.mg "enumerate" = none) (ha : PA X [e] ta) (hs : starEach [e] X.env = [(false, eval e X.env)] := by rfl) :
    PI X (.Tuple elts kk tpos) (.Call (.Name "enumerate" p) [e] [] pos) (iEnumT X.K ta) := by
  refine ⟨fun pins s σ H R I want => Call_ (ld_blt I hg hm boot_enumerate (PyProof.Rows.callWith_type1 (thn (ha.run pos pins s σ H _ I want) ?_) hs rfl))⟩
  rintro us s1 ⟨vs, H1, I1, rel, a, xs, rfl, hq, go⟩
  obtain rfl := rel.ref1
  obtain ⟨its, _, tup, _⟩ := I1.tuple hq
  refine counts_call (begins_tuple a its.toArray) tup fun g he ht up => wpAny_pyIter_enum he ?_
  have new : ∀ b ∈ [s1.heap.objs.size + 1, s1.heap.objs.size], s1.heap.objs.size ≤ b := by
    intro b hb
    simp only [List.mem_cons, List.not_mem_nil, or_false] at hb
    omega
  exact ⟨_, _, _, _, H1, rfl, I1.kept (t' := s1.toks) up, turn_enumT a (s1.heap.objs.size + 1) s1.heap.objs.size,
    ⟨⟨_, he⟩, ⟨_, ht, rfl, rfl⟩, Nat.succ_ne_self _⟩, fun b hb => I1.fpOk (new b hb) (I1.hok.fresh (new b hb)), go⟩
theorem walk_enumT {K : PySem.W.Frag} {a : Addr} {xs : List V} :
    Walk (IteT K a) xs.length (fun H => SqT K H a xs) (YPair (fun i => some (.int (i : Nat))) (fun i => xs[i]?)) := by
  refine ⟨fun i H lt q => ⟨xs, xs[i], q, List.getElem?_eq_getElem lt⟩, fun H q => ⟨xs, q, rfl⟩, ?_⟩
  rintro i H v H' _ q ⟨T, x, e, free, next, is⟩
  exact ⟨T, .int (i : Nat), x, e, free, next, rfl, is xs q⟩

/-! ### sum of a tuple of whole numbers -/
theorem sumT {X : Cx} (hc : X.calm = true) : CallR X (.builtin "sum") (fun vs H Q => ∃ (a : Addr) (ns : List Int),
    vs = [V.ref a] ∧ SqT X.K H a (ns.map V.int) ∧ Q (.int ns.sum) H) := by
  rintro pins s σ H xs us Q I r ⟨a, ns, rfl, hq, q⟩
  obtain rfl := r.ref1
  obtain ⟨its, rv, p, hz⟩ := I.tuple hq
  have hi : IntsAre its ns := rv.ints
  obtain ⟨ys, hy⟩ := hi.allInts.items
  have hn : numsOf its.toArray.toList = ns := by
    rw [show its.toArray.toList = its from rfl, hi.numsOf]
  have p' : s.heap.IsTuple a its.toArray := p
  rw [hy] at p' hn
  rw [nums_intItems] at hn
  refine PySem.W.ktm_sumG (I.ok.hd hc) p' ?_
  intro h' tk t' hk
  have e : preSum (numAt ys) ys.size = ns.sum := by
    rw [preSum_eq, List.take_of_length_le (by simp), hn]
  rw [e]
  exact ⟨.int ns.sum, H, I.kept hk, ⟨t', rfl⟩, q⟩

/-! ### a text so many times -/
def repText (z : Str) (n : Nat) : Str := ⟨(List.replicate n z.cps).foldl (· ++ ·) #[]⟩
theorem repS {X : Cx} : OpR X (binaryOp .Mult) (fun x y H Q => ∃ (z : Str) (n : Int), x = .str z ∧ y = .int n ∧ 2 ≤ n ∧ n ≤ 1000 ∧
    z.length = 1 ∧ (repText z n.toNat).length ≤ sizeLine ∧ Q (.str (repText z n.toNat)) H) := by
  rintro pins s σ H x y v u Q I rx ry ⟨z, n, rfl, rfl, h1, h2, hz, hs, q⟩
  obtain ⟨t, rfl⟩ := rx
  obtain ⟨t2, rfl⟩ := ry
  have c1 : ¬ n < 1 := by omega
  have c2 : (n == 1 || z.length == 0) = false := by
    rw [hz, show (n == 1) = false from beq_eq_false_iff_ne.mpr (by omega)]
    rfl
  refine PySem.P.mul_str ?_ ?_ ?_ ?_
  · rw [decide_eq_false (show ¬ n < -(2 ^ 63 : Int) by omega), decide_eq_false (show ¬ n ≥ 2 ^ 63 by omega)]
    rfl
  · intro _ _
    rw [hz]
    have : (1 : Int) ≤ (2 ^ 63 - 1) / n := by
      refine (Int.le_ediv_iff_mul_le (by omega)).mpr ?_
      omega
    omega
  · intro _ _
    show decide (z.length * n.toNat > sizeLine) = false
    rw [hz]
    refine decide_eq_false ?_
    rw [sizeLine_eq]
    omega
  · rw [if_neg c1, if_neg (by rw [c2]; exact Bool.false_ne_true)]
    exact ⟨hs, .str _, H, I.tok _, ⟨_, rfl⟩, q⟩

/-! ### a tuple so many times, once and never, too -/
theorem mulT_same (l : Addr) (items : Array Value) (n : Nat) (dd : Option Addr) (sl : Array (Option Value)) (x : Int) (u : Tok)
    (c1 : (items.isEmpty || x == 1) = true) (c0 : (decide (x < -(2 ^ 63)) || decide (x ≥ 2 ^ 63)) = false) :
    Meets (Builtin.«tuple.__mul__» ⟨[.ref l, .int x u], []⟩) (fun _ R s => s.heap.get? l = some { cls := .type "tuple", dict := dd, data := .seq items n, slots := sl } ∧
      R (.ok (.ret (Value.ref l))) s) :=
  .of_wp fun prog w A R s h => by
    obtain ⟨hp, g, d, tk, os⟩ := s
    obtain ⟨hl, h⟩ := h
    have f1 := AutoSeq1.idx_int
    wp_walk using AutoSeq1.wpAny_loadPart' hl
    repeat (first
      | (refine wpAny_ite_false (decide_eq_false (by rw [c0]; exact Bool.false_ne_true)) ?_; wp_walk using AutoSeq1.wpAny_loadPart' hl)
      | (refine wpAny_ite_true (decide_eq_true (by rw [c1])) ?_; wp_walk using AutoSeq1.wpAny_loadPart' hl))
    exact ⟨_, rfl, h⟩
end MG

namespace MG
open PySem PySem.Spec PyProof.Rows L2

theorem mulT_none (l : Addr) (items : Array Value) (n : Nat) (dd : Option Addr) (sl : Array (Option Value)) (u : Tok)
    (c1 : items.isEmpty = false) :
    Meets (Builtin.«tuple.__mul__» ⟨[.ref l, .int 0 u], []⟩) (fun _ R s =>
      s.heap.get? l = some { cls := .type "tuple", dict := dd, data := .seq items n, slots := sl } ∧
      R (.ok (.ret (Value.ref s.heap.objs.size))) { s with heap := s.heap.push { cls := Value.type "tuple", data := Data.seq #[] }, toks := s.toks }) :=
  .of_wp fun prog w A R s h => by
    obtain ⟨hp, g, d, tk, os⟩ := s
    obtain ⟨hl, h⟩ := h
    have f1 := AutoSeq1.idx_int
    have c2 : (items.isEmpty || (0 : Int) == 1) = false := by rw [c1]; rfl
    have c3 : (decide ((0 : Int) ≤ 0) || items.isEmpty) = true := rfl
    wp_walk using AutoSeq1.wpAny_loadPart' hl
    repeat (first
      | (refine wpAny_ite_false (decide_eq_false (by rw [c2]; exact Bool.false_ne_true)) ?_; wp_walk using AutoSeq1.wpAny_loadPart' hl)
      | (refine wpAny_ite_true (decide_eq_true (by rw [c3])) ?_; wp_walk using AutoSeq1.wpAny_loadPart' hl))
    exact ⟨_, rfl, h⟩

def rRepA (K : PySem.W.Frag) : R2 := fun x y H Q => ∃ l k xs, x = .ref l ∧ y = .int k ∧ SqT K H l xs ∧ xs ≠ [] ∧ 0 ≤ k ∧ k ≤ 1000 ∧
  xs.length ≤ 1000 ∧ (k = 1 → Q (.ref l) H) ∧ (k ≠ 1 → ∀ p, H p = none → Q (.ref p) (upd H p (.tup (List.replicate k.toNat xs).flatten)))
theorem op_repA {X : Cx} : OpR X (binaryOp .Mult) (rRepA X.K) := by
  rintro pins s σ H x y v u Q I rx ry ⟨l, k, xs, rfl, rfl, hT, hne, h1, h2, hz, q1, q2⟩
  by_cases hk : 2 ≤ k
  · exact op_repT pins s σ H _ _ v u Q I rx ry ⟨l, k, xs, rfl, rfl, hT, hne, hk, h2, hz, q2 (by omega)⟩
  · cases rx
    obtain ⟨t, rfl⟩ := ry
    obtain ⟨its, r, ⟨⟨cls, dd, data, sl⟩, ho, hc, n, hd⟩, hs⟩ := I.tuple hT
    simp only at hc hd
    subst hc hd
    have hi : its.toArray.isEmpty = false := by
      cases its with
      | nil =>
        have := r.length
        exact absurd (List.eq_nil_of_length_eq_zero this) hne
      | cons a b => rfl
    have ty : ∀ s' : Shared, s'.TypeIs (.int k t) "int" := fun s' => typeIs_int s' k t
    by_cases hk1 : k = 1
    · refine wpAny_binaryOp_repeat_ref (T := "tuple") (U := "int") (by decide) ⟨_, ho, rfl⟩ ty noFill_tuple_mul F.fills_int_mul
        F.slot_int_rmul repeat_tuple F.slot_int_index.lookup ?_
      refine call_meets F.slot_int_rmul (typeIs_int s k t) F.entry_int_rmul (F.args_int_rmul_2 _ _)
        (int_rmul_tuple k t l its.toArray n dd sl) ⟨ho, rfl, ⟨_, ho, rfl⟩, ?_⟩
      refine call_meets F.slot_tuple_mul ⟨_, ho, rfl⟩ F.entry_tuple_mul (F.args_tuple_mul_2 _ _)
        (mulT_same l its.toArray n dd sl k t (by rw [hk1, hi]; rfl) ?_) ⟨ho, ?_⟩
      · rw [decide_eq_false (show ¬ k < -(2 ^ 63 : Int) by omega), decide_eq_false (show ¬ k ≥ 2 ^ 63 by omega)]
        rfl
      · exact ⟨.ref l, H, I, rfl, q1 hk1⟩
    · have hk0 : k = 0 := by omega
      subst hk0
      refine wpAny_binaryOp_repeat_ref (T := "tuple") (U := "int") (by decide) ⟨_, ho, rfl⟩ ty noFill_tuple_mul F.fills_int_mul
        F.slot_int_rmul repeat_tuple F.slot_int_index.lookup ?_
      refine call_meets F.slot_int_rmul (typeIs_int s 0 t) F.entry_int_rmul (F.args_int_rmul_2 _ _)
        (int_rmul_tuple 0 t l its.toArray n dd sl) ⟨ho, rfl, ⟨_, ho, rfl⟩, ?_⟩
      refine call_meets F.slot_tuple_mul ⟨_, ho, rfl⟩ F.entry_tuple_mul (F.args_tuple_mul_2 _ _)
        (mulT_none l its.toArray n dd sl t hi) ⟨ho, ?_⟩
      refine ⟨.ref s.heap.objs.size, _, I.laid (t' := s.toks) (o := .tup []) (fun b ob q => Heap.get?_push_of_some _ q)
        (Nat.le_refl _) ?_, rfl, q2 hk1 _ (I.hok.fresh (Nat.le_refl _))⟩
      exact ⟨Nat.zero_le _, [], .nil, IsTup.new _ _⟩

/-! ### data: None, truths, whole numbers, texts, lists, tuples, dicts with text keys -/
def kD : Key → PyData
  | .inl i => .int i
  | .inr x => .str x
mutual
inductive Dd (H : Hp) : V → PyData → Prop
  | non : Dd H .non .none
  | bl (b : Bool) : Dd H (.bl b) (.bool b)
  | int (i : Int) : Dd H (.int i) (.int i)
  | str (x : Str) : Dd H (.str x) (.str x)
  | lst {a : Addr} {xs : List V} {ds : List PyData} : H a = some (.lst xs) → DdAll H xs ds → Dd H (.ref a) (.list ds)
  | tup {a : Addr} {xs : List V} {ds : List PyData} : H a = some (.tup xs) → DdAll H xs ds → Dd H (.ref a) (.tuple ds)
  | dic {a : Addr} {kvs : List (Key × V)} {ds : List PyData} : H a = some (.dK kvs) → DdAll H (kvs.map (·.2)) ds →
      Dd H (.ref a) (.dict ((kvs.map fun p => kD p.1).zip ds))
inductive DdAll (H : Hp) : List V → List PyData → Prop
  | nil : DdAll H [] []
  | cons {v : V} {vs : List V} {d : PyData} {ds : List PyData} : Dd H v d → DdAll H vs ds → DdAll H (v :: vs) (d :: ds)
end
theorem DdAll.length {H : Hp} : ∀ {vs : List V} {ds : List PyData}, DdAll H vs ds → ds.length = vs.length
  | [], _, h => by cases h; rfl
  | v :: vs, _, h => by
    cases h with
    | cons _ t => rw [List.length_cons, List.length_cons, t.length]

mutual
theorem Dd.same {H H' : Hp} (s : Same H H') : ∀ {v : V} {d : PyData}, Dd H v d → Dd H' v d
  | _, _, .non => .non
  | _, _, .bl b => .bl b
  | _, _, .int i => .int i
  | _, _, .str x => .str x
  | _, _, .lst e r => .lst (s _ _ e) (DdAll.same s r)
  | _, _, .tup e r => .tup (s _ _ e) (DdAll.same s r)
  | _, _, .dic e r => .dic (s _ _ e) (DdAll.same s r)
theorem DdAll.same {H H' : Hp} (s : Same H H') : ∀ {vs : List V} {ds : List PyData}, DdAll H vs ds → DdAll H' vs ds
  | _, _, .nil => .nil
  | _, _, .cons a b => .cons (Dd.same s a) (DdAll.same s b)
end

section
variable {X : Cx} {pins : List (Addr × Obj)} {σ : L2.St} {H : Hp} {s : Shared}
theorem key_read {P : Program} {w : World} {h : Heap} {k : Key} {v : Value} (e : (mixKind P w).is k v = true) : Reads h v (kD k) [] := by
  rcases keyIs_shape (show keyIs k v = true from e) with ⟨i, t, rfl, rfl⟩ | ⟨x, t, rfl, rfl⟩
  · exact .int i t
  · exact .str x t
theorem pairs_read {P : Program} {w : World} {h : Heap} : ∀ {es : List DictEntry} {vs : List (Key × Value)} {kvs : List (Key × V)},
    Pairs (mixKind P w) es vs → KV kvs vs →
    ReadsAll h (es.map (·.key)) (kvs.map fun p => kD p.1) [] ∧ es.map (·.val) = vs.map (·.2) ∧ Vals (kvs.map (·.2)) (vs.map (·.2))
  | _, _, _, .nil, .nil => ⟨.nil, rfl, .nil⟩
  | _, _, _, .cons h1 h2 t, .cons r rt => by
    obtain ⟨a, b, c⟩ := pairs_read (h := h) t rt
    refine ⟨?_, ?_, .cons r.2 c⟩
    · rw [← r.1] at h1
      exact ReadsAll.cons (key_read h1) a
    · rw [List.map_cons, List.map_cons, b, h2]
theorem zip_fst {α β : Type} {xs : List α} {ys : List β} (h : xs.length = ys.length) : (xs.zip ys).map (·.1) = xs := by
  rw [show (fun x : α × β => x.1) = Prod.fst from rfl]
  exact List.map_fst_zip (Nat.le_of_eq h)
theorem zip_snd {α β : Type} {xs : List α} {ys : List β} (h : xs.length = ys.length) : (xs.zip ys).map (·.2) = ys := by
  rw [show (fun x : α × β => x.2) = Prod.snd from rfl]
  exact List.map_snd_zip (Nat.le_of_eq h.symm)
theorem not_sys {a : Addr} {o : Obj} {vs : Array Value} {n : Nat} (sys : SysD X.base) (I : L2.Inv X pins σ H s) (h : s.heap.get? a = some o) (hc : o.data = .seq vs n) : sysModules ≠ a := by
  rintro rfl
  obtain ⟨mm, u, es, ep, hu, du, _⟩ := sys
  have := I.bk _ _ hu
  rw [h] at this
  cases this
  rw [hc] at du
  cases du
mutual
theorem Dd.reads (sys : SysD X.base) (I : Inv X pins σ H s) : ∀ {v : V} {d : PyData}, Dd H v d → ∀ {u : Value}, RelV v u → ∃ as, Reads s.heap u d as ∧ sysModules ∉ as
  | _, _, .non, _, r => by cases r; exact ⟨_, .none, List.not_mem_nil⟩
  | _, _, .bl b, _, r => by cases r; exact ⟨_, .bool b, List.not_mem_nil⟩
  | _, _, .int i, _, r => by obtain ⟨t, rfl⟩ := r; exact ⟨_, .int i t, List.not_mem_nil⟩
  | _, _, .str x, _, r => by obtain ⟨t, rfl⟩ := r; exact ⟨_, .str x t, List.not_mem_nil⟩
  | _, _, .lst e h, _, r => by
    cases r
    obtain ⟨_, its, n, rv, ho⟩ := I.hok _ _ e
    obtain ⟨as, q, ns⟩ := DdAll.reads sys I h rv
    refine ⟨_, Reads.list ho rfl rfl q, ?_⟩
    intro z
    rcases List.mem_cons.mp z with z | z
    · exact not_sys sys I ho rfl z
    · exact ns z
  | _, _, .tup e h, _, r => by
    cases r
    obtain ⟨_, its, rv, o, ho, hc, n, hd⟩ := I.hok _ _ e
    obtain ⟨as, q, ns⟩ := DdAll.reads sys I h rv
    exact ⟨_, Reads.tuple ho hc hd q, ns⟩
  | _, _, .dic (kvs := kvs) (ds := ds) e h, _, r => by
    cases r
    obtain ⟨_, hne, vs, kv, o, es, ep, ho, hx, hd, _, hp, _⟩ := I.hok _ _ e
    obtain ⟨rk, hv, rvs⟩ := pairs_read (h := s.heap) hp kv
    obtain ⟨bs, q, ns⟩ := DdAll.reads sys I h rvs
    have hl : (kvs.map fun p => kD p.1).length = ds.length := by
      rw [h.length, List.length_map, List.length_map]
    refine ⟨_, Reads.dict (as := []) (bs := bs) ho hx.1 hd ?_ ?_, ?_⟩
    · rw [zip_fst hl]; exact rk
    · rw [zip_snd hl, hv]; exact q
    · intro z
      rcases List.mem_cons.mp (show sysModules ∈ _ :: bs from z) with z | z
      · rw [z] at hne
        simp at hne
      · exact ns z
theorem DdAll.reads (sys : SysD X.base) (I : Inv X pins σ H s) : ∀ {vs : List V} {ds : List PyData}, DdAll H vs ds → ∀ {us : List Value}, Vals vs us → ∃ as, ReadsAll s.heap us ds as ∧ sysModules ∉ as
  | _, _, .nil, _, r => by cases r; exact ⟨_, .nil, List.not_mem_nil⟩
  | _, _, .cons a b, _, r => by
    cases r with
    | cons r1 r2 =>
      obtain ⟨as, q1, n1⟩ := Dd.reads sys I a r1
      obtain ⟨bs, q2, n2⟩ := DdAll.reads sys I b r2
      refine ⟨_, .cons q1 q2, ?_⟩
      intro z
      rcases List.mem_append.mp z with z | z
      · exact n1 z
      · exact n2 z
end
/-- repr(x) -/
theorem call_repr (gd : X.A.guards = some []) (hu : X.A.units + 100 < cLine) (sys : SysD X.base) :
    CallR X (.builtin "repr") (fun xs H Q => ∃ x d, xs = [x] ∧ Dd H x d ∧ d.showable = true ∧ d.depth ≤ 60 ∧ d.shown.length ≤ sizeLine ∧ Q (.str d.shown) H) := by
  rintro pins s σ H xs us Q I r ⟨x, d, rfl, hd, hs, hdep, hz, q⟩
  obtain ⟨u, rfl, r1⟩ := vals1 r
  have fin : ∀ h' v tk, (∀ b o, s.heap.get? b = some o → h'.get? b = some o) →
      EP X pins σ Q (.str d.shown v) { s with heap := h', toks := tk } := fun h' v tk hk => ⟨.str d.shown, H, I.kept hk, ⟨v, rfl⟩, q⟩
  obtain ⟨as, rd, ns⟩ := Dd.reads sys I hd r1
  cases rd with
  | none => exact PySem.P.repr_of_none (fin s.heap s.toks (s.toks + 1) fun _ _ e => e)
  | bool b => exact PySem.P.repr_of_bool (fin s.heap s.toks (s.toks + 1) fun _ _ e => e)
  | int i t => exact PySem.P.repr_of_int (of_decide_eq_true hs) (fin s.heap s.toks (s.toks + 1) fun _ _ e => e)
  | str z t => exact PySem.P.repr_of_str (fin s.heap s.toks (s.toks + 1) fun _ _ e => e) hz
  | list h1 h2 h3 h4 => exact repr_of_reads' (.list h1 h2 h3 h4) hs (fun _ => ns) gd (by omega) (fun _ _ e => e) fin hz
  | tuple h1 h2 h3 h4 => exact repr_of_reads' (.tuple h1 h2 h3 h4) hs (fun _ => ns) gd (by omega) (fun _ _ e => e) fin hz
  | dict h1 h2 h3 h4 h5 => exact repr_of_reads' (.dict h1 h2 h3 h4 h5) hs (fun _ => ns) gd (by omega) (fun _ _ e => e) fin hz
end
end MG

namespace MG
open PySem PySem.Spec PyProof.Rows L2

/-- v is data in H: at most n deep, its repr at most c signs -/
def Da (H : Hp) (n c : Nat) (v : V) : Prop := ∃ d, Dd H v d ∧ d.showable = true ∧ d.depth ≤ n ∧ d.shown.length ≤ c
theorem Da.same {H H' : Hp} {n c : Nat} {v : V} (s : Same H H') (h : Da H n c v) : Da H' n c v := by
  obtain ⟨d, a, b⟩ := h
  exact ⟨d, a.same s, b⟩
theorem Da.le {H : Hp} {n c n' c' : Nat} {v : V} (h : Da H n c v) (hn : n ≤ n') (hc : c ≤ c') : Da H n' c' v := by
  obtain ⟨d, a, b, e, f⟩ := h
  exact ⟨d, a, b, Nat.le_trans e hn, Nat.le_trans f hc⟩
theorem Da.non {H : Hp} : Da H 0 4 .non := ⟨.none, .non, rfl, Nat.le_refl _, by decide +kernel⟩
theorem Da.bl {H : Hp} (b : Bool) : Da H 0 5 (.bl b) := ⟨.bool b, .bl b, rfl, Nat.le_refl _, by cases b <;> decide +kernel⟩
theorem int_len {i : Int} {k : Nat} (hk : 0 < k) (h : i.natAbs < 2 ^ k) : (Str.ofString (toString i)).length ≤ k + 1 := by
  rw [PySem.ofString_length]
  refine int_text_length_le hk ?_
  by_cases h0 : i.natAbs = 0
  · rw [h0]; exact Nat.lt_of_le_of_lt (by decide) hk
  · exact (Nat.log2_lt h0).mpr h
theorem Da.int {H : Hp} {i : Int} (h : i.natAbs < 2 ^ 300) : Da H 0 301 (.int i) := by
  refine ⟨.int i, .int i, ?_, Nat.le_refl _, int_len (by decide) h⟩
  show decide (i.natAbs.log2 < 1920) = true
  refine decide_eq_true ?_
  by_cases h0 : i.natAbs = 0
  · rw [h0]; decide
  · exact Nat.lt_of_lt_of_le ((Nat.log2_lt h0).mpr h) (by decide)
theorem Da.str {H : Hp} (x : Str) {c : Nat} (h : (reprText x).length ≤ c) : Da H 0 c (.str x) := ⟨.str x, .str x, rfl, Nat.le_refl _, h⟩

theorem das {H : Hp} {n c : Nat} : ∀ {xs : List V}, (∀ x ∈ xs, Da H n c x) →
    ∃ ds, DdAll H xs ds ∧ PyData.showableAll ds = true ∧ PyData.depthAll ds ≤ n ∧ piled (PyData.shownAll ds) ≤ xs.length * (c + 2)
  | [], _ => ⟨[], .nil, rfl, Nat.zero_le _, by rw [PyData.shownAll, piled_nil]; exact Nat.zero_le _⟩
  | x :: xs, h => by
    obtain ⟨d, a, b, e, f⟩ := h x List.mem_cons_self
    obtain ⟨ds, a2, b2, e2, f2⟩ := das (xs := xs) fun y hy => h y (List.mem_cons_of_mem _ hy)
    refine ⟨d :: ds, .cons a a2, ?_, ?_, ?_⟩
    · rw [PyData.showableAll, b, b2]; rfl
    · rw [PyData.depthAll]; exact Nat.max_le.mpr ⟨e, e2⟩
    · rw [PyData.shownAll, piled_cons, List.length_cons, Nat.add_mul, Nat.one_mul]
      omega
theorem tupleText_le (ts : List Str) : (tupleText ts).length ≤ piled ts + 3 := by
  unfold tupleText
  rw [strLen_append, strLen_append]
  have h1 : ("(" : Str).length = 1 := rfl
  have h2 : (Str.ofString (if (ts.length == 1) = true then ",)" else ")")).length ≤ 2 := by
    cases ts.length == 1 <;> decide +kernel
  have h3 : (Str.join ", " ts).length ≤ piled ts := by
    cases ts with
    | nil => decide +kernel
    | cons t r =>
      have := join_length_add (t :: r) (List.cons_ne_nil _ _)
      omega
  have h4 : ((if (ts.length == 1) = true then ",)" else ")" : String) : Str).length ≤ 2 := h2
  omega
theorem dictText_le (ts : List Str) : (dictText ts).length ≤ piled ts + 3 := by
  unfold dictText
  rw [strLen_append, strLen_append]
  have h1 : ("{" : Str).length = 1 := rfl
  have h2 : ("}" : Str).length = 1 := rfl
  have h3 : (Str.join ", " ts).length ≤ piled ts := by
    cases ts with
    | nil => decide +kernel
    | cons t r =>
      have := join_length_add (t :: r) (List.cons_ne_nil _ _)
      omega
  omega
theorem listText_le (ts : List Str) : (listText ts).length ≤ piled ts + 3 := by
  unfold listText
  rw [strLen_append]
  have h2 : ("]" : Str).length = 1 := rfl
  cases ts with
  | nil => decide +kernel
  | cons t r =>
    have e : (textFrom 0 "[" (t :: r)) = textFrom 1 (("[" : Str) ++ (if (0 : Nat) > 0 then ", " else "" : String) ++ t) r := rfl
    rw [e, textFrom_length_pos _ _ _ Nat.one_pos, strLen_append, strLen_append, piled_cons]
    have h1 : ("[" : Str).length = 1 := rfl
    have h3 : ((if (0 : Nat) > 0 then ", " else "" : String) : Str).length = 0 := by decide +kernel
    omega
theorem Da.tup {H : Hp} {n c m : Nat} {a : Addr} {xs : List V} (e : H a = some (.tup xs)) (h : ∀ x ∈ xs, Da H n c x) (hm : xs.length ≤ m) :
    Da H (n + 1) (m * (c + 2) + 3) (.ref a) := by
  obtain ⟨ds, a1, b1, e1, f1⟩ := das h
  refine ⟨.tuple ds, .tup e a1, b1, Nat.succ_le_succ e1, ?_⟩
  have h1 := tupleText_le (PyData.shownAll ds)
  have h2 : xs.length * (c + 2) ≤ m * (c + 2) := Nat.mul_le_mul_right _ hm
  show (tupleText (PyData.shownAll ds)).length ≤ _
  omega
theorem Da.lst {H : Hp} {n c m : Nat} {a : Addr} {xs : List V} (e : H a = some (.lst xs)) (h : ∀ x ∈ xs, Da H n c x) (hm : xs.length ≤ m) :
    Da H (n + 1) (m * (c + 2) + 3) (.ref a) := by
  obtain ⟨ds, a1, b1, e1, f1⟩ := das h
  refine ⟨.list ds, .lst e a1, b1, Nat.succ_le_succ e1, ?_⟩
  have h1 := listText_le (PyData.shownAll ds)
  have h2 : xs.length * (c + 2) ≤ m * (c + 2) := Nat.mul_le_mul_right _ hm
  show (listText (PyData.shownAll ds)).length ≤ _
  omega
theorem Da.dic0 {H : Hp} {a : Addr} (e : H a = some (.dK [])) : Da H 1 3 (.ref a) :=
  ⟨.dict [], .dic e .nil, rfl, by decide, by decide +kernel⟩
theorem Da.dic1 {H : Hp} {n c : Nat} {a : Addr} {k : Str} {v : V} (e : H a = some (.dK [(.inr k, v)])) (h : Da H n c v) (hk : (reprText k).length ≤ 5) :
    Da H (n + 1) (c + 12) (.ref a) := by
  obtain ⟨d, a1, b1, e1, f1⟩ := h
  refine ⟨.dict [(.str k, d)], .dic e (.cons a1 .nil), ?_, ?_, ?_⟩
  · show (true && d.showable && true) = true
    rw [b1]; rfl
  · show max (max 0 d.depth) 0 + 1 ≤ n + 1
    omega
  · have h1 := dictText_le (PyData.shownKv [(.str k, d)])
    have h2 : PyData.shownKv [(.str k, d)] = [reprText k ++ ": " ++ d.shown] := rfl
    rw [h2] at h1
    show (dictText (PyData.shownKv [(.str k, d)])).length ≤ _
    rw [h2]
    have h3 : (reprText k ++ ": " ++ d.shown).length = (reprText k).length + 2 + d.shown.length := by
      rw [strLen_append, strLen_append]; rfl
    rw [piled_cons, piled_nil, h3] at h1
    omega
end MG

namespace MG
open PySem PySem.Spec PyProof.Rows L2

/-! ### f(a=.., b=..): every parameter by its name, in the def's order -/
def KB (K : PySem.W.Frag) (fd : FuncData) (ps : List Str) : Prop :=
  ∀ (s : Shared) (us : List Value), K.In s.heap → us.length = ps.length → BindsTo s fd ⟨[], ps.zip us⟩ (ps.zip us)
theorem kb_of {K : PySem.W.Frag} {x qual : Str} {st : Stmt} {f : Addr} {fd : FuncData} {ps : List Str} (F : Fun K x qual st f fd)
    (h : ∀ (kV doc pm : Value) (an : Option Addr) (cdv ct : Value) (us : List Value), us.length = ps.length →
      bindArgs (PySem.W.fnOf x qual (defArgs st) (defBody st) (defScope st) .none kV doc pm an cdv ct) ⟨[], ps.zip us⟩ = pure (ps.zip us)) : KB K fd ps := by
  obtain ⟨oc, od, kV, doc, pm, an, cdv, ct, osl, rfl, lk, hcd⟩ := F.ex
  exact fun s us _ hl => .of_eq (h kV doc pm an cdv ct us hl)
def tCallN (sp : Sp) (E : XK) (tk : TA) : TE := fun σ H Q => tk σ H fun zs H2 => sp zs H2 Q E
theorem pe_callN {X : Cx} {k : Nat} {f : Addr} {fd : FuncData} {ps : List Str} {sp : Sp} {E : XK} {x : Str} {p pos : Pos} {kws : List Keyword} {tk : TA}
    (F : FnOk X.prog X.w X.K X.mg X.base CX0 k f fd ps sp) (hr : Room k X.A) (hg : Gl X x)
    (hm : X.mg x = some (.ref f)) (hk : PySem.W.keepIn X.K (.ref f) = true) (hb : KB X.K fd ps) (hkw : PK X kws tk)
    (hall : (backToKw pos (keywordEach kws X.env)).all (·.1.isSome) = true := by rfl)
    (hks : (backToKw pos (keywordEach kws X.env)).filterMap (·.1) = ps := by rfl)
    (hdb : (x == ("__debug__" : Str)) = false := by decide)
    (hpl : ((backTo pos (starEach [] X.env)).any (·.1) || (backToKw pos (keywordEach kws X.env)).any (·.1.isNone)) = false := by rfl) :
    PE X (.Call (.Name x p) [] kws pos) (tCallN sp E tk) := by
  constructor
  intro pins s σ H Q I h
  refine wpAny_Call_Name_kw (ld_glob I hg hm ?_ hdb)
  refine PySem.W.callWith_KW0 (h₀ := X.base) I.ok.mod.kin hk hall (thn (hkw.run pos pins s σ H _ I h) ?_) hpl
  rintro us s1 ⟨vs, H1, I1, r, q⟩
  refine ⟨I1.kIn, ?_⟩
  rw [hks]
  have hl : us.length = ps.length := by
    rw [← r.length]
    exact F.len _ _ _ _ q
  refine wpAny_call (codeAny_mono (F.run X.A X.stack s1 H1 ⟨[], ps.zip us⟩ us vs Q E hr I1.env0 (hb s1 us I1.kIn hl) r q) ?_)
  intro res s' hq
  cases res with
  | error e => exact False.elim hq
  | ok fl =>
    cases fl with
    | ret u => exact I1.after hq
    | next => exact False.elim hq
    | brk => exact False.elim hq
    | cont => exact False.elim hq

/-! ### isinstance of data -/
def tyN : PyData → String
  | .none => "NoneType"
  | .bool _ => "bool"
  | .int _ => "int"
  | .str _ => "str"
  | .list _ => "list"
  | .tuple _ => "tuple"
  | .dict _ => "dict"
theorem Dd.ty {K : PySem.W.Frag} {H : Hp} {v : V} {d : PyData} (h : Dd H v d) : TyX K H v (.type (tyN d)) := by
  cases h with
  | non => exact .base .non
  | bl b => exact .base (.bl b)
  | int i => exact .base (.int i)
  | str x => exact .base (.str x)
  | lst e _ => exact .base (.lst e)
  | tup e _ => exact .base (.tup e)
  | dic e _ => exact .base (.dK e)
def isIntD : PyData → Bool
  | .int _ | .bool _ => true
  | _ => false
def isBoolD : PyData → Bool
  | .bool _ => true
  | _ => false
def isTupD : PyData → Bool
  | .tuple _ => true
  | _ => false
theorem kit_int (K : PySem.W.Frag) (d : PyData) : PySem.W.kitOne K (.type (tyN d)) (.type "int") = some (isIntD d) := by
  cases d with
  | none => exact kit_ty (a := "NoneType") (b := "int") (r := false) (by decide +kernel)
  | bool _ => exact kit_ty (a := "bool") (b := "int") (r := true) (by decide +kernel)
  | int _ => exact kit_ty (a := "int") (b := "int") (r := true) (by decide +kernel)
  | str _ => exact kit_ty (a := "str") (b := "int") (r := false) (by decide +kernel)
  | list _ => exact kit_ty (a := "list") (b := "int") (r := false) (by decide +kernel)
  | tuple _ => exact kit_ty (a := "tuple") (b := "int") (r := false) (by decide +kernel)
  | dict _ => exact kit_ty (a := "dict") (b := "int") (r := false) (by decide +kernel)
theorem kit_bool (K : PySem.W.Frag) (d : PyData) : PySem.W.kitOne K (.type (tyN d)) (.type "bool") = some (isBoolD d) := by
  cases d with
  | none => exact kit_ty (a := "NoneType") (b := "bool") (r := false) (by decide +kernel)
  | bool _ => exact kit_ty (a := "bool") (b := "bool") (r := true) (by decide +kernel)
  | int _ => exact kit_ty (a := "int") (b := "bool") (r := false) (by decide +kernel)
  | str _ => exact kit_ty (a := "str") (b := "bool") (r := false) (by decide +kernel)
  | list _ => exact kit_ty (a := "list") (b := "bool") (r := false) (by decide +kernel)
  | tuple _ => exact kit_ty (a := "tuple") (b := "bool") (r := false) (by decide +kernel)
  | dict _ => exact kit_ty (a := "dict") (b := "bool") (r := false) (by decide +kernel)
theorem kit_tuple (K : PySem.W.Frag) (d : PyData) : PySem.W.kitOne K (.type (tyN d)) (.type "tuple") = some (isTupD d) := by
  cases d with
  | none => exact kit_ty (a := "NoneType") (b := "tuple") (r := false) (by decide +kernel)
  | bool _ => exact kit_ty (a := "bool") (b := "tuple") (r := false) (by decide +kernel)
  | int _ => exact kit_ty (a := "int") (b := "tuple") (r := false) (by decide +kernel)
  | str _ => exact kit_ty (a := "str") (b := "tuple") (r := false) (by decide +kernel)
  | list _ => exact kit_ty (a := "list") (b := "tuple") (r := false) (by decide +kernel)
  | tuple _ => exact kit_ty (a := "tuple") (b := "tuple") (r := true) (by decide +kernel)
  | dict _ => exact kit_ty (a := "dict") (b := "tuple") (r := false) (by decide +kernel)
end MG

/-! MG: twos, greatest common parts -/
namespace MG
open PySem

/-- how often 2 parts n (0 of 0) -/
def v2 (n : Nat) : Nat := if h : n = 0 then 0 else if n % 2 = 1 then 0 else v2 (n / 2) + 1
termination_by n
decreasing_by omega
theorem v2_odd {n : Nat} (h : n % 2 = 1) : v2 n = 0 := by
  rw [v2]
  simp [h]
theorem v2_even {n : Nat} (h0 : n ≠ 0) (h : n % 2 = 0) : v2 n = v2 (n / 2) + 1 := by
  rw [v2]
  rw [dif_neg h0, if_neg (by omega)]
theorem v2_mul2 {n : Nat} (h0 : n ≠ 0) : v2 (2 * n) = v2 n + 1 := by
  rw [v2_even (by omega) (by omega), show 2 * n / 2 = n by omega]
/-- n & (n - 1) takes the last one away -/
theorem land_pred : ∀ n : Nat, 0 < n → (n &&& (n - 1)) + 2 ^ v2 n = n := by
  intro n
  induction n using Nat.strongRecOn with
  | ind n ih =>
    intro hn
    have hd : (n &&& (n - 1)) / 2 = n / 2 &&& (n - 1) / 2 := Nat.and_div_two ..
    have hm := Nat.and_mod_two_eq_one (a := n) (b := n - 1)
    have hsplit := Nat.div_add_mod (n &&& (n - 1)) 2
    rcases Nat.mod_two_eq_zero_or_one n with h | h
    · have h2 : (n - 1) / 2 = n / 2 - 1 := by omega
      have hq : 0 < n / 2 := by omega
      have := ih (n / 2) (by omega) hq
      rw [h2] at hd
      have hz : (n &&& (n - 1)) % 2 = 0 := by
        rcases Nat.mod_two_eq_zero_or_one (n &&& (n - 1)) with z | z
        · exact z
        · have := (hm.mp z).1
          omega
      rw [v2_even (by omega) h, Nat.pow_succ]
      omega
    · have h2 : (n - 1) / 2 = n / 2 := by omega
      rw [h2, Nat.and_self] at hd
      have hz : (n &&& (n - 1)) % 2 = 0 := by
        rcases Nat.mod_two_eq_zero_or_one (n &&& (n - 1)) with z | z
        · exact z
        · have := (hm.mp z).2
          omega
      rw [v2_odd h]
      show _ + 1 = n
      omega
theorem low_bit {n : Int} (h : 0 < n) : Builtin.bitAnd n (-n) = 2 ^ v2 n.toNat := by
  have e : Builtin.bitNot (-n) = n - 1 := by
    show -(-n) - 1 = n - 1
    omega
  rw [PyProof.Rows.bitAnd_pn (by omega) (by omega), e]
  have h1 := land_pred n.toNat (by omega)
  have h2 : (n - 1).toNat = n.toNat - 1 := by omega
  rw [h2]
  have h3 : ((n.toNat &&& (n.toNat - 1) : Nat) : Int) + ((2 ^ v2 n.toNat : Nat) : Int) = n := by
    rw [← Int.natCast_add, h1]
    omega
  rw [show ((2 ^ v2 n.toNat : Nat) : Int) = 2 ^ v2 n.toNat from by rw [Int.natCast_pow]; rfl] at h3
  omega
theorem bits_pow (k : Nat) : (Builtin.Int.intBits ((2 : Int) ^ k) : Nat) = k + 1 := by
  unfold Builtin.Int.intBits
  have h0 : ((2 : Int) ^ k == 0) = false := by
    refine beq_eq_false_iff_ne.mpr ?_
    have : (0 : Int) < 2 ^ k := Int.pow_pos (by decide)
    omega
  rw [h0]
  have h1 : ((2 : Int) ^ k).natAbs = 2 ^ k := by
    rw [Int.natAbs_pow]
    rfl
  rw [if_neg Bool.false_ne_true, h1, Nat.log2_two_pow]
theorem pow_v2_dvd : ∀ n : Nat, 2 ^ v2 n ∣ n := by
  intro n
  induction n using Nat.strongRecOn with
  | ind n ih =>
    by_cases h0 : n = 0
    · subst h0; exact Nat.dvd_zero _
    · rcases Nat.mod_two_eq_zero_or_one n with h | h
      · rw [v2_even h0 h, Nat.pow_succ]
        have h1 := ih (n / 2) (by omega)
        have h2 : n = n / 2 * 2 := by omega
        rw [h2]
        exact Nat.mul_dvd_mul_right (by rw [show n / 2 * 2 / 2 = n / 2 by omega]; exact h1) 2
      · rw [v2_odd h]; exact Nat.one_dvd _
theorem v2_unique {n k m : Nat} (h : n = 2 ^ k * m) (hm : m % 2 = 1) : v2 n = k := by
  induction k generalizing n with
  | zero =>
    rw [Nat.pow_zero, Nat.one_mul] at h
    rw [h]; exact v2_odd hm
  | succ k ih =>
    have h0 : 2 ^ k * m ≠ 0 := by
      intro z
      rcases Nat.mul_eq_zero.mp z with z | z
      · exact absurd z (Nat.pos_iff_ne_zero.mp (Nat.two_pow_pos k))
      · omega
    rw [h, Nat.pow_succ, Nat.mul_comm (2 ^ k) 2, Nat.mul_assoc, v2_mul2 h0, ih rfl]
theorem odd_rest {n : Nat} (h : 0 < n) : n / 2 ^ v2 n % 2 = 1 := by
  induction n using Nat.strongRecOn with
  | ind n ih =>
    rcases Nat.mod_two_eq_zero_or_one n with z | z
    · rw [v2_even (by omega) z, Nat.pow_succ, Nat.mul_comm, ← Nat.div_div_eq_div_mul]
      exact ih (n / 2) (by omega) (by omega)
    · rw [v2_odd z, Nat.pow_zero, Nat.div_one]; exact z
theorem v2_split {n : Nat} (h : 0 < n) : n = 2 ^ v2 n * (n / 2 ^ v2 n) := (Nat.mul_div_cancel' (pow_v2_dvd n)).symm
theorem pow_dvd_iff {n k : Nat} (h : 0 < n) : 2 ^ k ∣ n ↔ k ≤ v2 n := by
  constructor
  · intro hd
    refine Nat.le_of_not_lt fun hlt => ?_
    have h1 : 2 ^ (v2 n + 1) ∣ n := Nat.dvd_trans (Nat.pow_dvd_pow 2 hlt) hd
    obtain ⟨c, hc⟩ := h1
    have h2 := odd_rest h
    have h3 : n / 2 ^ v2 n = 2 * c := by
      rw [hc]
      rw [← hc]
      have : n = 2 ^ v2 n * (2 * c) := by rw [← Nat.mul_assoc, ← Nat.pow_succ]; exact hc
      exact Nat.div_eq_of_eq_mul_right (Nat.two_pow_pos _) this
    omega
  · intro hk
    exact Nat.dvd_trans (Nat.pow_dvd_pow 2 hk) (pow_v2_dvd n)

/-- the greatest number that parts all -/
def gl : List Int → Nat
  | [] => 0
  | n :: r => Nat.gcd n.toNat (gl r)
theorem gl_append : ∀ (a b : List Int), gl (a ++ b) = Nat.gcd (gl a) (gl b)
  | [], b => by rw [List.nil_append, gl, Nat.gcd_zero_left]
  | n :: r, b => by rw [List.cons_append, gl, gl_append r b, gl, Nat.gcd_assoc]
theorem gl_perm {a b : List Int} (h : a.Perm b) : gl a = gl b := by
  induction h with
  | nil => rfl
  | cons x _ ih => rw [gl, gl, ih]
  | swap x y l => rw [gl, gl, gl, gl, ← Nat.gcd_assoc, ← Nat.gcd_assoc, Nat.gcd_comm y.toNat x.toNat]
  | trans _ _ ih1 ih2 => rw [ih1, ih2]
theorem gl_zeros : ∀ k : Nat, gl (List.replicate k 0) = 0
  | 0 => rfl
  | k + 1 => by rw [List.replicate_succ, gl, gl_zeros k]; rfl
theorem gl_dvd : ∀ {l : List Int} {n : Int}, n ∈ l → gl l ∣ n.toNat
  | m :: r, n, h => by
    rcases List.mem_cons.mp h with rfl | h
    · exact Nat.gcd_dvd_left _ _
    · exact Nat.dvd_trans (Nat.gcd_dvd_right _ _) (gl_dvd h)
theorem gl_pos : ∀ {l : List Int} {n : Int}, n ∈ l → 0 < n → 0 < gl l := fun {l n} h hn =>
  Nat.pos_of_ne_zero fun z => by
    have := gl_dvd h
    rw [z] at this
    have := Nat.eq_zero_of_zero_dvd this
    omega
theorem gl_le {l : List Int} {n : Int} (h : n ∈ l) (hn : 0 < n) : (gl l : Int) ≤ n := by
  have := Nat.le_of_dvd (by omega) (gl_dvd h)
  omega
theorem gl_mul (c : Int) (hc : 0 ≤ c) : ∀ {l : List Int}, (∀ n ∈ l, 0 ≤ n) → gl (l.map fun n => c * n) = c.toNat * gl l
  | [], _ => rfl
  | n :: r, h => by
    rw [List.map_cons, gl, gl, gl_mul c hc fun m hm => h m (List.mem_cons_of_mem _ hm), ← Nat.gcd_mul_left, Int.toNat_mul hc (h n List.mem_cons_self)]
theorem gl_filter : ∀ l : List Int, gl (l.filter fun n => decide (n > 0)) = gl l
  | [] => rfl
  | n :: r => by
    by_cases h : n > 0
    · rw [List.filter_cons_of_pos (by simpa using h), gl, gl, gl_filter r]
    · rw [List.filter_cons_of_neg (by simpa using h), gl_filter r, gl, show n.toNat = 0 by omega, Nat.gcd_zero_left]
/-- how many are parted by 2 no oftener than t -/
def fewT (t : Nat) (l : List Int) : List Int := l.filter fun n => decide (n > 0) && decide (v2 n.toNat ≤ t)
theorem fewT_perm {t : Nat} {a b : List Int} (h : a.Perm b) : (fewT t a).length = (fewT t b).length := (h.filter _).length_eq
theorem fewT_zeros (t k : Nat) : fewT t (List.replicate k 0) = [] := by
  unfold fewT
  refine List.filter_eq_nil_iff.mpr fun n hn => ?_
  rw [List.eq_of_mem_replicate hn]
  simp
end MG

/-! MG: clauses, zip of tuples in comprehensions, == of rows and of texts -/
namespace MG
open PySem PySem.Spec PyProof.Rows L2
theorem walk_zipT {K : PySem.W.Frag} {a b : Addr} {xs ys : List V} {n : Nat} (hn : n = min xs.length ys.length) :
    Walk (RZ.ItzT K a b) n (fun H => SqT K H a xs ∧ SqT K H b ys) (YPair (fun i => xs[i]?) (fun i => ys[i]?)) := by
  subst hn
  refine ⟨fun i _ hi q => ?_, fun _ q => ⟨xs, ys, q.1, q.2, by omega⟩, fun i H v H' _ q y => ?_⟩
  · have h1 : i < xs.length := by omega
    have h2 : i < ys.length := by omega
    exact ⟨xs, ys, xs[i], ys[i], q.1, q.2, by simp [h1], by simp [h2]⟩
  · obtain ⟨T, x, z, h1, h2, h3, h4, h5⟩ := y
    exact ⟨T, x, z, h1, h2, h3, h4 xs q.1, h5 ys q.2⟩
theorem eqvAll_ints : ∀ a b : List Int, PyData.eqvAll (a.map PyData.int) (b.map PyData.int) = decide (a = b)
  | [], [] => rfl
  | [], _ :: _ => rfl
  | _ :: _, [] => rfl
  | x :: a, y :: b => by
    rw [List.map_cons, List.map_cons, PyData.eqvAll, eqvAll_ints a b]
    show ((x == y) && _) = _
    by_cases h : x = y
    · subst h
      rw [show (x == x) = true from beq_self_eq_true x, Bool.true_and]
      by_cases h2 : a = b
      · rw [h2]; simp
      · rw [decide_eq_false h2, decide_eq_false (fun z => h2 (List.cons.inj z).2)]
    · rw [show (x == y) = false from beq_eq_false_iff_ne.mpr h, decide_eq_false (fun z => h (List.cons.inj z).1)]; rfl
theorem eqv_rows (a b : List Int) : PyData.eqv (.tuple (a.map PyData.int)) (.tuple (b.map PyData.int)) = decide (a = b) := by
  rw [PyData.eqv, eqvAll_ints]
theorem eqvAll_strs : ∀ a b : List Str, PyData.eqvAll (a.map PyData.str) (b.map PyData.str) = decide (a = b)
  | [], [] => rfl
  | [], _ :: _ => rfl
  | _ :: _, [] => rfl
  | x :: a, y :: b => by
    rw [List.map_cons, List.map_cons, PyData.eqvAll, eqvAll_strs a b]
    show ((x == y) && _) = _
    by_cases h : x = y
    · subst h
      rw [show (x == x) = true from beq_self_eq_true x, Bool.true_and]
      by_cases h2 : a = b
      · rw [h2]; simp
      · rw [decide_eq_false h2, decide_eq_false (fun z => h2 (List.cons.inj z).2)]
    · rw [show (x == y) = false from beq_eq_false_iff_ne.mpr h, decide_eq_false (fun z => h (List.cons.inj z).1)]; rfl
theorem eqv_strs (a b : List Str) : PyData.eqv (.tuple (a.map PyData.str)) (.tuple (b.map PyData.str)) = decide (a = b) := by
  rw [PyData.eqv, eqvAll_strs]
theorem dpIntsG {K : PySem.W.Frag} {H : Hp} : ∀ L : List Int, DpAll K H (L.map V.int) (L.map PyData.int)
  | [] => .nil
  | i :: L => .cons (.int i) (dpIntsG L)
theorem dpStrsG {K : PySem.W.Frag} {H : Hp} : ∀ L : List Str, DpAll K H (L.map V.str) (L.map PyData.str)
  | [] => .nil
  | i :: L => .cons (.str i) (dpStrsG L)
theorem lay_intsG : ∀ L : List Int, PyData.canLayAll0 (L.map PyData.int) = true
  | [] => rfl
  | i :: L => by rw [List.map_cons, PyData.canLayAll0, lay_intsG L]; rfl
theorem lay_strsG : ∀ L : List Str, (∀ x ∈ L, PyData.canLay0 (.str x) = true) → PyData.canLayAll0 (L.map PyData.str) = true
  | [], _ => rfl
  | i :: L, h => by rw [List.map_cons, PyData.canLayAll0, lay_strsG L fun x hx => h x (List.mem_cons_of_mem _ hx), h i List.mem_cons_self]; rfl
theorem depth_intsG : ∀ L : List Int, PyData.depthAll (L.map PyData.int) = 0
  | [] => rfl
  | i :: L => by rw [List.map_cons, PyData.depthAll, depth_intsG L]; rfl
theorem depth_strsG : ∀ L : List Str, PyData.depthAll (L.map PyData.str) = 0
  | [] => rfl
  | i :: L => by rw [List.map_cons, PyData.depthAll, depth_strsG L]; rfl
theorem shapedT_ints (L : List Int) : SeqAt.shaped (.tuple (L.map PyData.int)) = true := by
  unfold SeqAt.shaped
  rw [PyData.canLay0, lay_intsG, PyData.depth, depth_intsG]
  rfl
theorem shapedT_strs (L : List Str) (h : ∀ x ∈ L, PyData.canLay0 (.str x) = true) : SeqAt.shaped (.tuple (L.map PyData.str)) = true := by
  unfold SeqAt.shaped
  rw [PyData.canLay0, lay_strsG L h, PyData.depth, depth_strsG]
  rfl
/-! ### those who have something -/
def hold (ns : List Int) (i : Nat) : List Int := ((List.range i).filter fun j => decide (0 < ns.getD j 0)).map fun (j : Nat) => (j : Int)
theorem hold_succ (ns : List Int) (i : Nat) : hold ns (i + 1) = hold ns i ++ (if 0 < ns.getD i 0 then [(i : Int)] else []) := by
  unfold hold
  rw [List.range_succ, List.filter_append, List.map_append]
  congr 1
  by_cases h : 0 < ns.getD i 0
  · rw [if_pos h, List.filter_cons_of_pos (by simpa using h)]; rfl
  · rw [if_neg h, List.filter_cons_of_neg (by simpa using h)]; rfl
theorem hold_len (ns : List Int) (i : Nat) : (hold ns i).length ≤ i := by
  unfold hold
  rw [List.length_map]
  exact Nat.le_trans (List.length_filter_le _ _) (by rw [List.length_range]; exact Nat.le_refl _)
theorem hold_count (ns : List Int) : ∀ i, i ≤ ns.length → (hold ns i).length = ((ns.take i).filter fun n => decide (0 < n)).length
  | 0, _ => by rw [List.take_zero]; rfl
  | i + 1, h => by
    have hi : i < ns.length := h
    rw [hold_succ, List.length_append, hold_count ns i (by omega), List.take_add_one, List.getElem?_eq_getElem hi, List.filter_append, List.length_append]
    congr 1
    have e : ns.getD i 0 = ns[i] := by rw [List.getD_eq_getElem?_getD, List.getElem?_eq_getElem hi]; rfl
    rw [e]
    show _ = (List.filter _ [ns[i]]).length
    by_cases z : 0 < ns[i]
    · rw [if_pos z, List.filter_cons_of_pos (by simpa using z)]; rfl
    · rw [if_neg z, List.filter_cons_of_neg (by simpa using z)]; rfl
theorem hold_all (ns : List Int) : (hold ns ns.length).length = (ns.filter fun n => decide (0 < n)).length := by
  rw [hold_count ns _ (Nat.le_refl _), List.take_length]
/-! ### the clauses -/
def hfn (r o : List Int) : Bool := (r.zip o).any fun p => decide (p.1 = 0) && decide (p.2 > 0)
def ms (r : List Int) : Int := (gl r : Nat) / 2 ^ v2 (gl r)
def od (r : List Int) : Nat := (fewT (v2 (gl r)) r).length
def asked (r o : List Int) : List (Str × Bool) :=
  [("sum", decide (o.sum ≠ r.sum)), ("nothing", hfn r o), ("measure", decide (ms o ≠ ms r)), ("twos", decide (v2 (gl o) < v2 (gl r))),
   ("odd ones", decide (v2 (gl o) = v2 (gl r)) && decide (od r < od o)), ("doubled", decide (v2 (gl o) = v2 (gl r)) && decide (od o = (hold o o.length).length))]
def clausesOf (r o : List Int) : List Str := ((asked r o).filter fun p => p.2).map fun p => p.1
def brkT (r o : List Int) : List Str := if r = o then [] else if r.length ≠ o.length then ["places"] else clausesOf r o
def PairsAt (H : Hp) (ts : List Addr) (cs : List (Str × Bool)) : Prop := ts.length = cs.length ∧ ∀ (i : Nat) (t : Addr) (c : Str × Bool), ts[i]? = some t → cs[i]? = some c → H t = some (.tup [.str c.1, .bl c.2])
theorem PairsAt.same {H H' : Hp} {ts : List Addr} {cs : List (Str × Bool)} (h : PairsAt H ts cs) (s : Same H H') : PairsAt H' ts cs := ⟨h.1, fun i t c a b => s _ _ (h.2 i t c a b)⟩
theorem PairsAt.nil {H : Hp} : PairsAt H [] [] := ⟨rfl, fun i t c h => by cases h⟩
theorem PairsAt.cons {H : Hp} {t : Addr} {c : Str × Bool} {ts : List Addr} {cs : List (Str × Bool)} (e : H t = some (.tup [.str c.1, .bl c.2])) (h : PairsAt H ts cs) : PairsAt H (t :: ts) (c :: cs) := by
  refine ⟨by rw [List.length_cons, List.length_cons, h.1], fun i t' c' h1 h2 => ?_⟩
  cases i with
  | zero => cases h1; cases h2; exact e
  | succ i => exact h.2 i t' c' h1 h2
end MG

/-! MG: comprehensions of two clauses over tuples; deeds -/
namespace MG
open PySem PySem.Spec PyProof.Rows L2
/-- over a tuple place by place: Do goes on to what is wanted ahead of the next place -/
theorem by_place {K : PySem.W.Frag} {a : Addr} {xs : List V} {Do : (Hp → Prop) → V → Hp → Prop} {H0 : Hp} {Q : Hp → Prop} (Pv : Nat → Hp → Prop) (h0 : Pv 0 H0)
    (hl : ∀ i H, i ≤ xs.length → Pv i H → SqT K H a xs) (hs : ∀ i x H, xs[i]? = some x → Pv i H → Do (Pv (i + 1)) x H) (hd : ∀ H, Pv xs.length H → Q H) :
    ∃ W : Nat → Nat → Hp → Prop, (∃ m, W 0 m H0) ∧ ∀ i m H, W i m H → ((Itt K a).stop i H ∧ Q H) ∨
      ((Itt K a).go i H ∧ ∃ N : Hp → Prop, (∀ H', N H' → ∃ m', m' < m ∧ W (i + 1) m' H') ∧ ∀ x H', (Itt K a).yld i H x H' → Do N x H') := by
  refine ⟨fun i m H => i + m = xs.length ∧ Pv i H, ⟨xs.length, Nat.zero_add _, h0⟩, fun i m H h => ?_⟩
  match m, h with
  | 0, ⟨e, p⟩ =>
    rw [Nat.add_zero] at e
    exact .inl ⟨⟨xs, hl i H (Nat.le_of_eq e) p, Nat.le_of_eq e.symm⟩, hd H (by rw [← e]; exact p)⟩
  | m + 1, ⟨e, p⟩ =>
    have lt : i < xs.length := by omega
    have at_ := hl i H (Nat.le_of_lt lt) p
    refine .inr ⟨⟨xs, xs[i], at_, List.getElem?_eq_getElem lt⟩, Pv (i + 1), fun H' p' => ⟨m, Nat.lt_succ_self m, by omega, p'⟩, ?_⟩
    rintro x H' ⟨rfl, tells⟩
    exact hs i x H' (tells xs at_) p
theorem lc2_tup {K : PySem.W.Frag} {a : Addr} {xs : List V} {g g1 : TG} {tt tt1 : TT} {wi1 : TI} {te : TE} {vs vs1 : List Nat} {σ : L2.St} {H1 : Hp} {D : Addr} {Qd : Hp → Prop} (Pv : Nat → Hp → Prop) (h0 : Pv 0 (upd H1 D (.lst [])))
    (hl : ∀ i H, i ≤ xs.length → Pv i H → SqT K H a xs)
    (hs : ∀ i x H, xs[i]? = some x → Pv i H → g x (wipe σ vs) H fun σ2 H2 => wipe σ2 vs = wipe σ vs ∧ tt σ2 H2 fun b H3 =>
      if b = true then wi1 σ2 H3 fun J1 H4 => ∃ W1 : Nat → Nat → Hp → Prop, (∃ m, W1 0 m H4) ∧ ∀ j k H, W1 j k H →
        (J1.stop j H ∧ Pv (i + 1) H) ∨ (J1.go j H ∧ ∃ Nx1 : Hp → Prop, (∀ H', Nx1 H' → ∃ k', k' < k ∧ W1 (j + 1) k' H') ∧ ∀ x H', J1.yld j H x H' → g1 x (wipe σ2 vs1) H' fun σ3 H5 => wipe σ3 vs1 = wipe σ2 vs1 ∧ tt1 σ3 H5 fun b H6 =>
          if b = true then te σ3 H6 fun y H7 => ∃ acc, H7 D = some (.lst acc) ∧ acc.length < sizeLine ∧ Nx1 (upd H7 D (.lst (acc ++ [y]))) else Nx1 H6)
      else Pv (i + 1) H3) (hd : ∀ H, Pv xs.length H → Qd H) :
    ∃ W : Nat → Nat → Hp → Prop, (∃ m, W 0 m (upd H1 D (.lst []))) ∧ ∀ i m H, W i m H →
      ((Itt K a).stop i H ∧ Qd H) ∨ ((Itt K a).go i H ∧ ∃ Nx : Hp → Prop, (∀ H', Nx H' → ∃ m', m' < m ∧ W (i + 1) m' H') ∧ ∀ x H', (Itt K a).yld i H x H' → g x (wipe σ vs) H' fun σ2 H2 => wipe σ2 vs = wipe σ vs ∧ tt σ2 H2 fun b H3 =>
        if b = true then wi1 σ2 H3 fun J1 H4 => ∃ W1 : Nat → Nat → Hp → Prop, (∃ m, W1 0 m H4) ∧ ∀ j k H, W1 j k H →
          (J1.stop j H ∧ Nx H) ∨ (J1.go j H ∧ ∃ Nx1 : Hp → Prop, (∀ H', Nx1 H' → ∃ k', k' < k ∧ W1 (j + 1) k' H') ∧ ∀ x H', J1.yld j H x H' → g1 x (wipe σ2 vs1) H' fun σ3 H5 => wipe σ3 vs1 = wipe σ2 vs1 ∧ tt1 σ3 H5 fun b H6 =>
            if b = true then te σ3 H6 fun y H7 => ∃ acc, H7 D = some (.lst acc) ∧ acc.length < sizeLine ∧ Nx1 (upd H7 D (.lst (acc ++ [y]))) else Nx1 H6)
        else Nx H3) := by
  exact by_place Pv h0 hl hs hd
theorem in_tup {K : PySem.W.Frag} {a : Addr} {xs : List V} {g1 : TG} {tt1 : TT} {te : TE} {vs1 : List Nat} {σ2 : L2.St} {H4 : Hp} {D : Addr} {Nx : Hp → Prop} (Pv : Nat → Hp → Prop) (h0 : Pv 0 H4)
    (hl : ∀ i H, i ≤ xs.length → Pv i H → SqT K H a xs)
    (hs : ∀ j x H, xs[j]? = some x → Pv j H → g1 x (wipe σ2 vs1) H fun σ3 H5 => wipe σ3 vs1 = wipe σ2 vs1 ∧ tt1 σ3 H5 fun b H6 =>
      if b = true then te σ3 H6 fun y H7 => ∃ acc, H7 D = some (.lst acc) ∧ acc.length < sizeLine ∧ Pv (j + 1) (upd H7 D (.lst (acc ++ [y]))) else Pv (j + 1) H6) (hd : ∀ H, Pv xs.length H → Nx H) :
    ∃ W1 : Nat → Nat → Hp → Prop, (∃ m, W1 0 m H4) ∧ ∀ j k H, W1 j k H →
      ((Itt K a).stop j H ∧ Nx H) ∨ ((Itt K a).go j H ∧ ∃ Nx1 : Hp → Prop, (∀ H', Nx1 H' → ∃ k', k' < k ∧ W1 (j + 1) k' H') ∧ ∀ x H', (Itt K a).yld j H x H' → g1 x (wipe σ2 vs1) H' fun σ3 H5 => wipe σ3 vs1 = wipe σ2 vs1 ∧ tt1 σ3 H5 fun b H6 =>
        if b = true then te σ3 H6 fun y H7 => ∃ acc, H7 D = some (.lst acc) ∧ acc.length < sizeLine ∧ Nx1 (upd H7 D (.lst (acc ++ [y]))) else Nx1 H6) := by
  exact by_place Pv h0 hl hs hd
/-! ### a deed -/
def deed (r : List Int) (i j : Nat) : List Int := (r.set i (r.getD i 0 - r.getD j 0)).set j (2 * r.getD j 0)
structure MayG (r : List Int) (i j : Nat) : Prop where
  hi : i < r.length
  hj : j < r.length
  ne : i ≠ j
  pj : 0 < r.getD j 0
  ge : r.getD j 0 ≤ r.getD i 0
theorem getD_eq {r : List Int} {i : Nat} (h : i < r.length) : r.getD i 0 = r[i] := by
  rw [List.getD_eq_getElem?_getD, List.getElem?_eq_getElem h]; rfl
theorem sum_setG : ∀ (l : List Int) (j : Nat) (h : j < l.length) (v : Int), (l.set j v).sum = l.sum - l[j] + v
  | x :: r, 0, _, v => by
    rw [List.set_cons_zero, List.sum_cons, List.sum_cons]
    show v + r.sum = x + r.sum - x + v
    omega
  | x :: r, j + 1, h, v => by
    have h' : j < r.length := by rw [List.length_cons] at h; omega
    rw [List.set_cons_succ, List.sum_cons, List.sum_cons, sum_setG r j h' v]
    show _ = x + r.sum - r[j] + v
    omega
theorem deed_len (r : List Int) (i j : Nat) : (deed r i j).length = r.length := by
  unfold deed
  rw [List.length_set, List.length_set]
/-- what is added up over a row, place by place -/
theorem sum_deed {r : List Int} {i j : Nat} (h : MayG r i j) (f : Int → Int) : ((deed r i j).map f).sum = (r.map f).sum - f r[i]! - f r[j]! + f (r[i]! - r[j]!) + f (2 * r[j]!) := by
  have hi := h.hi
  have hj := h.hj
  have ei : r[i]! = r[i] := by rw [List.getElem!_eq_getElem?_getD, List.getElem?_eq_getElem hi]; rfl
  have ej : r[j]! = r[j] := by rw [List.getElem!_eq_getElem?_getD, List.getElem?_eq_getElem hj]; rfl
  unfold deed
  rw [getD_eq hi, getD_eq hj, ei, ej, List.map_set, List.map_set]
  rw [sum_setG _ j (by rw [List.length_set, List.length_map]; exact hj), sum_setG _ i (by rw [List.length_map]; exact hi)]
  rw [List.getElem_set_ne h.ne, List.getElem_map, List.getElem_map]
  omega
theorem deed_sum {r : List Int} {i j : Nat} (h : MayG r i j) : (deed r i j).sum = r.sum := by
  have := sum_deed h id
  rw [List.map_id, List.map_id] at this
  simp only [id] at this
  omega
theorem deed_mem {r : List Int} {i j : Nat} (h : MayG r i j) {n : Int} (hn : n ∈ deed r i j) : n ∈ r ∨ n = r.getD i 0 - r.getD j 0 ∨ n = 2 * r.getD j 0 := by
  unfold deed at hn
  rcases List.mem_or_eq_of_mem_set hn with hn | hn
  · rcases List.mem_or_eq_of_mem_set hn with hn | hn
    · exact .inl hn
    · exact .inr (.inl hn)
  · exact .inr (.inr hn)
theorem deed_get {r : List Int} {i j : Nat} (h : MayG r i j) (p : Nat) : (deed r i j).getD p 0 = if p = j then 2 * r.getD j 0 else if p = i then r.getD i 0 - r.getD j 0 else r.getD p 0 := by
  have hi := h.hi
  have hj := h.hj
  unfold deed
  rw [List.getD_eq_getElem?_getD]
  by_cases e1 : p = j
  · subst e1
    rw [if_pos rfl, List.getElem?_set_self (by rw [List.length_set]; exact hj)]
    rfl
  · rw [if_neg e1, List.getElem?_set_ne (Ne.symm e1)]
    by_cases e2 : p = i
    · subst e2
      rw [if_pos rfl, List.getElem?_set_self hi]
      rfl
    · rw [if_neg e2, List.getElem?_set_ne (Ne.symm e2), ← List.getD_eq_getElem?_getD]
theorem gl_all {l : List Int} {d : Nat} (h : ∀ n ∈ l, d ∣ n.toNat) : d ∣ gl l := by
  induction l with
  | nil => exact Nat.dvd_zero _
  | cons x t ih =>
    rw [gl]
    exact Nat.dvd_gcd (h x List.mem_cons_self) (ih fun n hn => h n (List.mem_cons_of_mem _ hn))
theorem getD_mem {r : List Int} {i : Nat} (h : i < r.length) : r.getD i 0 ∈ r := by
  rw [getD_eq h]; exact List.getElem_mem h
/-- the unit stays, or becomes twice as great -/
theorem deed_unit {r : List Int} {i j : Nat} (h : MayG r i j) (hn : ∀ n ∈ r, 0 ≤ n) : gl (deed r i j) = gl r ∨ gl (deed r i j) = 2 * gl r := by
  have hi := getD_mem h.hi
  have hj := getD_mem h.hj
  have pj := h.pj
  have ge := h.ge
  have g0 : 0 < gl r := gl_pos hj pj
  have up : gl r ∣ gl (deed r i j) := gl_all fun n hm => by
    rcases deed_mem h hm with hm | rfl | rfl
    · exact gl_dvd hm
    · rw [show (r.getD i 0 - r.getD j 0).toNat = (r.getD i 0).toNat - (r.getD j 0).toNat by omega]
      exact Nat.dvd_sub (gl_dvd hi) (gl_dvd hj)
    · rw [Int.toNat_mul (by decide) (by omega)]
      exact Nat.dvd_mul_left_of_dvd (gl_dvd hj) 2
  have m2 : 2 * r.getD j 0 ∈ deed r i j := by
    have := deed_get h j
    rw [if_pos rfl] at this
    rw [← this]
    exact getD_mem (by rw [deed_len]; exact h.hj)
  have m1 : r.getD i 0 - r.getD j 0 ∈ deed r i j := by
    have := deed_get h i
    rw [if_neg h.ne, if_pos rfl] at this
    rw [← this]
    exact getD_mem (by rw [deed_len]; exact h.hi)
  have down : gl (deed r i j) ∣ 2 * gl r := by
    have e : 2 * gl r = gl (r.map fun n => 2 * n) := (gl_mul 2 (by decide) hn).symm
    rw [e]
    refine gl_all fun n hm => ?_
    obtain ⟨x, hx, rfl⟩ := List.mem_map.mp hm
    obtain ⟨p, hp, rfl⟩ := List.getElem_of_mem hx
    have d2 : gl (deed r i j) ∣ 2 * (r.getD j 0).toNat := by
      have := gl_dvd m2
      rw [Int.toNat_mul (by decide) (by omega)] at this
      exact this
    have ex : ∀ x : Int, 0 ≤ x → (2 * x).toNat = 2 * x.toNat := fun x hx => by omega
    by_cases e1 : p = j
    · subst e1
      rw [ex _ (hn _ (List.getElem_mem hp)), ← getD_eq hp]
      exact d2
    · by_cases e2 : p = i
      · subst e2
        rw [ex _ (hn _ (List.getElem_mem hp)), ← getD_eq hp]
        have d1 := gl_dvd m1
        have e3 : 2 * (r.getD p 0).toNat = 2 * (r.getD p 0 - r.getD j 0).toNat + 2 * (r.getD j 0).toNat := by omega
        rw [e3]
        exact Nat.dvd_add (Nat.dvd_mul_left_of_dvd d1 2) d2
      · have := deed_get h p
        rw [if_neg e1, if_neg e2] at this
        have d3 : gl (deed r i j) ∣ (r.getD p 0).toNat := by
          rw [← this]
          exact gl_dvd (getD_mem (by rw [deed_len]; exact hp))
        rw [ex _ (hn _ (List.getElem_mem hp)), ← getD_eq hp]
        exact Nat.dvd_mul_left_of_dvd d3 2
  obtain ⟨c, hc⟩ := up
  rw [hc, Nat.mul_comm 2 (gl r)] at down
  have : c ∣ 2 := Nat.dvd_of_mul_dvd_mul_left g0 down
  have le2 := Nat.le_of_dvd (by decide) this
  rcases (show c = 0 ∨ c = 1 ∨ c = 2 by omega) with h0 | h1 | h2
  · rw [h0] at this
    exact absurd (Nat.eq_zero_of_zero_dvd this) (by decide)
  · left; rw [hc, h1, Nat.mul_one]
  · right; rw [hc, h2, Nat.mul_comm]
/-! ### counts as sums -/
def oddF (t : Nat) (n : Int) : Int := if n % 2 ^ (t + 1) = 0 then 0 else 1
def posF (n : Int) : Int := if 0 < n then 1 else 0
theorem oddF_iff (t : Nat) {n : Int} (h : 0 ≤ n) : (decide (n > 0) && decide (v2 n.toNat ≤ t)) = decide (oddF t n = 1) := by
  unfold oddF
  have e : n % 2 ^ (t + 1) = 0 ↔ 2 ^ (t + 1) ∣ n.toNat := by
    have e1 : n % 2 ^ (t + 1) = ((n.toNat % 2 ^ (t + 1) : Nat) : Int) := by
      rw [Int.natCast_emod, Int.toNat_of_nonneg h, Int.natCast_pow]; rfl
    rw [e1]
    constructor
    · intro z
      exact Nat.dvd_of_mod_eq_zero (by omega)
    · intro z
      rw [Nat.mod_eq_zero_of_dvd z]; rfl
  by_cases h0 : n > 0
  · rw [decide_eq_true h0, Bool.true_and]
    have k := pow_dvd_iff (n := n.toNat) (k := t + 1) (by omega)
    by_cases z : n % 2 ^ (t + 1) = 0
    · rw [if_pos z, decide_eq_false (by have := k.mp (e.mp z); omega)]; rfl
    · rw [if_neg z, decide_eq_true (Nat.le_of_not_lt fun y => z (e.mpr (k.mpr y)))]; rfl
  · have : n = 0 := by omega
    subst this
    rw [decide_eq_false h0, if_pos (Int.zero_emod _)]; rfl
theorem few_sum (t : Nat) : ∀ {l : List Int}, (∀ n ∈ l, 0 ≤ n) → ((fewT t l).length : Int) = (l.map (oddF t)).sum
  | [], _ => rfl
  | x :: l, h => by
    have ih := few_sum t (l := l) fun n hn => h n (List.mem_cons_of_mem _ hn)
    have k := oddF_iff t (h x List.mem_cons_self)
    have v : oddF t x = 0 ∨ oddF t x = 1 := by unfold oddF; split <;> simp
    rw [List.map_cons, List.sum_cons, ← ih]
    unfold fewT at ih ⊢
    rcases v with v | v
    · rw [List.filter_cons_of_neg (by rw [k, v]; decide), v]; omega
    · rw [List.filter_cons_of_pos (by rw [k, v]; decide), v, List.length_cons]; omega
theorem pos_sum : ∀ l : List Int, ((l.filter fun n => decide (0 < n)).length : Int) = (l.map posF).sum
  | [] => rfl
  | x :: l => by
    have ih := pos_sum l
    rw [List.map_cons, List.sum_cons, ← ih]
    unfold posF
    by_cases h : 0 < x
    · rw [List.filter_cons_of_pos (by simpa using h), if_pos h, List.length_cons]; omega
    · rw [List.filter_cons_of_neg (by simpa using h), if_neg h]; omega
theorem sum_le_of {f g : Int → Int} : ∀ {l : List Int}, (∀ n ∈ l, f n ≤ g n) → (l.map f).sum ≤ (l.map g).sum
  | [], _ => Int.le_refl _
  | x :: l, h => by
    have := sum_le_of (f := f) (g := g) (l := l) fun n hn => h n (List.mem_cons_of_mem _ hn)
    have := h x List.mem_cons_self
    rw [List.map_cons, List.map_cons, List.sum_cons, List.sum_cons]; omega
theorem sum_lt_of {f g : Int → Int} : ∀ {l : List Int}, (∀ n ∈ l, f n ≤ g n) → (∃ n ∈ l, f n < g n) → (l.map f).sum < (l.map g).sum
  | [], _, h => by obtain ⟨n, hn, _⟩ := h; cases hn
  | x :: l, h, ⟨n, hn, hlt⟩ => by
    rw [List.map_cons, List.map_cons, List.sum_cons, List.sum_cons]
    have hx := h x List.mem_cons_self
    have hl := sum_le_of (f := f) (g := g) (l := l) fun n hn => h n (List.mem_cons_of_mem _ hn)
    rcases List.mem_cons.mp hn with e | hn
    · subst e; omega
    · have := sum_lt_of (f := f) (g := g) (l := l) (fun n hn => h n (List.mem_cons_of_mem _ hn)) ⟨n, hn, hlt⟩
      omega
/-! ### what one deed or more leave -/
structure Lv (r o : List Int) : Prop where
  len : o.length = r.length
  sum : o.sum = r.sum
  noth : ∀ p, r.getD p 0 = 0 → o.getD p 0 = 0
  ms : MG.ms o = MG.ms r
  tw : v2 (gl r) ≤ v2 (gl o)
  od : v2 (gl o) = v2 (gl r) → MG.od o ≤ MG.od r
  dbl : v2 (gl o) = v2 (gl r) → MG.od o < (hold o o.length).length
  nn : ∀ n ∈ o, 0 ≤ n
theorem Lv.trans {r m o : List Int} (a : Lv r m) (b : Lv m o) : Lv r o := by
  refine ⟨b.len.trans a.len, b.sum.trans a.sum, fun p h => b.noth p (a.noth p h), b.ms.trans a.ms, Nat.le_trans a.tw b.tw, fun e => ?_, fun e => ?_, b.nn⟩
  · have h1 := a.tw
    have h2 := b.tw
    exact Nat.le_trans (b.od (by omega)) (a.od (by omega))
  · have h1 := a.tw
    have h2 := b.tw
    exact b.dbl (by omega)
theorem hfn_of {r o : List Int} (h : ∀ p, r.getD p 0 = 0 → o.getD p 0 = 0) : hfn r o = false := by
  unfold hfn
  rw [List.any_eq_false]
  rintro ⟨x, y⟩ hm
  obtain ⟨p, hp, e⟩ := List.getElem_of_mem hm
  rw [List.length_zip] at hp
  rw [List.getElem_zip] at e
  have e1 : r[p] = x := congrArg Prod.fst e
  have e2 : o[p] = y := congrArg Prod.snd e
  have := h p
  rw [getD_eq (by omega), getD_eq (by omega), e1, e2] at this
  intro z
  simp only [Bool.and_eq_true, decide_eq_true_eq] at z
  have := this z.1
  omega
theorem Lv.clauses {r o : List Int} (h : Lv r o) : MG.clausesOf r o = [] := by
  unfold MG.clausesOf asked
  rw [hfn_of h.noth, h.sum, h.ms]
  rw [decide_eq_false (show ¬ (r.sum ≠ r.sum) from fun z => z rfl), decide_eq_false (show ¬ (MG.ms r ≠ MG.ms r) from fun z => z rfl), decide_eq_false (show ¬ v2 (gl o) < v2 (gl r) by have := h.tw; omega)]
  by_cases e : v2 (gl o) = v2 (gl r)
  · have h1 := h.od e
    have h2 := h.dbl e
    rw [decide_eq_false (show ¬ MG.od r < MG.od o by omega), decide_eq_false (show ¬ MG.od o = (hold o o.length).length by omega), Bool.and_false]
    rfl
  · rw [decide_eq_false e]
    rfl
theorem Lv.brk {r o : List Int} (h : Lv r o) : brkT r o = [] := by
  unfold brkT
  split
  · rfl
  · rw [if_neg (by rw [h.len]; exact fun z => z rfl), h.clauses]
theorem ms_of {g g' : Nat} (h0 : 0 < g) (h : g' = g ∨ g' = 2 * g) : ((g' : Int) / 2 ^ v2 g' = (g : Int) / 2 ^ v2 g) ∧ v2 g ≤ v2 g' := by
  rcases h with rfl | rfl
  · exact ⟨rfl, Nat.le_refl _⟩
  · rw [v2_mul2 (by omega)]
    refine ⟨?_, by omega⟩
    have e1 : (((2 * g : Nat) : Int) / 2 ^ (v2 g + 1)) = ((2 * g / 2 ^ (v2 g + 1) : Nat) : Int) := by rw [Int.natCast_ediv, Int.natCast_pow]; rfl
    have e2 : ((g : Int) / 2 ^ v2 g) = ((g / 2 ^ v2 g : Nat) : Int) := by rw [Int.natCast_ediv, Int.natCast_pow]; rfl
    rw [e1, e2, Nat.pow_succ, Nat.mul_comm (2 ^ v2 g) 2, Nat.mul_div_mul_left _ _ (by decide)]
theorem deed_nn {r : List Int} {i j : Nat} (h : MayG r i j) (hn : ∀ n ∈ r, 0 ≤ n) : ∀ n ∈ deed r i j, 0 ≤ n := by
  intro n hm
  have := h.ge
  have := h.pj
  rcases deed_mem h hm with hm | rfl | rfl
  · exact hn n hm
  · omega
  · omega
theorem deed_lv {r : List Int} {i j : Nat} (h : MayG r i j) (hn : ∀ n ∈ r, 0 ≤ n) : Lv r (deed r i j) := by
  have g0 : 0 < gl r := gl_pos (getD_mem h.hj) h.pj
  have hu := deed_unit h hn
  have hnn := deed_nn h hn
  obtain ⟨m1, m2⟩ := ms_of g0 hu
  have m2j : 2 * r.getD j 0 ∈ deed r i j := by
    have := deed_get h j
    rw [if_pos rfl] at this
    rw [← this]
    exact getD_mem (by rw [deed_len]; exact h.hj)
  have hi := h.hi
  have hj := h.hj
  have ei : r[i]! = r.getD i 0 := by rw [List.getElem!_eq_getElem?_getD, List.getD_eq_getElem?_getD]; rfl
  have ej : r[j]! = r.getD j 0 := by rw [List.getElem!_eq_getElem?_getD, List.getD_eq_getElem?_getD]; rfl
  have dv : ∀ n ∈ r, (2 : Int) ^ v2 (gl r) ∣ n := fun n hm => by
    have h1 : 2 ^ v2 (gl r) ∣ n.toNat := Nat.dvd_trans (pow_v2_dvd _) (gl_dvd hm)
    have h2 := Int.natCast_dvd_natCast.mpr h1
    rw [Int.toNat_of_nonneg (hn n hm), Int.natCast_pow] at h2
    exact h2
  have f2 : ∀ t, t = v2 (gl r) → oddF t (2 * r.getD j 0) = 0 := fun t ht => by
    subst ht
    unfold oddF
    refine if_pos (Int.emod_eq_zero_of_dvd ?_)
    rw [Int.pow_succ, Int.mul_comm]
    exact Int.mul_dvd_mul (Int.dvd_refl 2) (dv _ (getD_mem hj))
  refine ⟨deed_len r i j, deed_sum h, fun p hp => ?_, m1, m2, fun e => ?_, fun e => ?_, hnn⟩
  · rw [deed_get h p]
    have := h.pj
    have := h.ge
    by_cases e1 : p = j
    · subst e1; omega
    · rw [if_neg e1]
      by_cases e2 : p = i
      · subst e2; omega
      · rw [if_neg e2]; exact hp
  · have h1 := few_sum (v2 (gl r)) hn
    have h2 := few_sum (v2 (gl (deed r i j))) hnn
    have h3 := sum_deed h (oddF (v2 (gl r)))
    rw [e] at h2
    rw [ei, ej, f2 _ rfl] at h3
    have key : oddF (v2 (gl r)) (r.getD i 0 - r.getD j 0) ≤ oddF (v2 (gl r)) (r.getD i 0) + oddF (v2 (gl r)) (r.getD j 0) := by
      unfold oddF
      by_cases za : r.getD i 0 % 2 ^ (v2 (gl r) + 1) = 0
      · by_cases zb : r.getD j 0 % 2 ^ (v2 (gl r) + 1) = 0
        · rw [if_pos za, if_pos zb, if_pos (by rw [Int.sub_emod, za, zb]; simp)]; decide
        · rw [if_pos za, if_neg zb]; split <;> decide
      · rw [if_neg za]; split <;> split <;> decide
    unfold MG.od
    rw [e]
    omega
  · have h2 := few_sum (v2 (gl (deed r i j))) hnn
    have h4 := pos_sum (deed r i j)
    have lt := sum_lt_of (f := oddF (v2 (gl r))) (g := posF) (l := deed r i j) (fun n hm => by
      have := hnn n hm
      unfold oddF posF
      by_cases z : n = 0
      · subst z; rw [Int.zero_emod]; decide
      · rw [if_pos (show 0 < n by omega)]; split <;> decide) ⟨_, m2j, by
      rw [f2 _ rfl]
      unfold posF
      rw [if_pos (by have := h.pj; omega)]; decide⟩
    rw [hold_all]
    unfold MG.od
    rw [e] at h2 ⊢
    omega
end MG

/-! MG: data of rows, of places and of deeds; lists of pairs in the heap -/
namespace MG
open PySem PySem.Spec PyProof.Rows L2
def wholeD : PyData → Bool
  | .int _ => true
  | _ => false
def hasD (ns : List Int) : PyData → Bool
  | .int p => decide (0 ≤ p) && (decide (p < ns.length) && decide (0 < ns.getD p.toNat 0))
  | _ => false
def twoD (ns : List Int) : PyData → PyData → Bool
  | .int p, .int q => hasD ns (.int p) && (hasD ns (.int q) && decide (p ≠ q))
  | _, _ => false
def giveD (ns : List Int) : PyData → PyData → Bool
  | .int p, .int q => twoD ns (.int p) (.int q) && decide (ns.getD q.toNat 0 ≤ ns.getD p.toNat 0)
  | _, _ => false
theorem hasD_eq (ns : List Int) (p : Int) : hasD ns (.int p) = (decide (0 ≤ p) && (decide (p < ns.length) && decide (0 < ns.getD p.toNat 0))) := rfl
theorem twoD_eq (ns : List Int) (p q : Int) : twoD ns (.int p) (.int q) = (hasD ns (.int p) && (hasD ns (.int q) && decide (p ≠ q))) := rfl
theorem giveD_eq (ns : List Int) (p q : Int) : giveD ns (.int p) (.int q) = (twoD ns (.int p) (.int q) && decide (ns.getD q.toNat 0 ≤ ns.getD p.toNat 0)) := rfl
theorem hasD_int {ns : List Int} {d : PyData} (h : hasD ns d = true) : ∃ p : Nat, d = .int p ∧ p < ns.length ∧ 0 < ns.getD p 0 := by
  cases d with
  | int p =>
    unfold hasD at h
    simp only [Bool.and_eq_true, decide_eq_true_eq] at h
    obtain ⟨h1, h2, h3⟩ := h
    refine ⟨p.toNat, by rw [Int.toNat_of_nonneg h1], by omega, h3⟩
  | _ => cases h
theorem hasD_of {ns : List Int} {p : Nat} (h : p < ns.length) (h0 : 0 < ns.getD p 0) : hasD ns (.int p) = true := by
  rw [hasD_eq, Int.toNat_natCast, decide_eq_true (show (0 : Int) ≤ p by omega), decide_eq_true (show (p : Int) < ns.length by omega), decide_eq_true h0]
  rfl
theorem twoD_int {ns : List Int} {d e : PyData} (h : twoD ns d e = true) : ∃ p q : Nat, d = .int p ∧ e = .int q ∧ p < ns.length ∧ q < ns.length ∧ 0 < ns.getD p 0 ∧ 0 < ns.getD q 0 ∧ p ≠ q := by
  unfold twoD at h
  split at h
  · rename_i p q
    simp only [Bool.and_eq_true, decide_eq_true_eq] at h
    obtain ⟨a1, a2, a3⟩ := h
    obtain ⟨p', e1, b1, c1⟩ := hasD_int a1
    obtain ⟨q', e2, b2, c2⟩ := hasD_int a2
    cases e1
    cases e2
    exact ⟨p', q', rfl, rfl, b1, b2, c1, c2, fun z => a3 (by rw [z])⟩
  · cases h
theorem giveD_may {ns : List Int} {d e : PyData} (h : giveD ns d e = true) : ∃ p q : Nat, d = .int p ∧ e = .int q ∧ MayG ns p q := by
  unfold giveD at h
  split at h
  · rename_i p q
    rw [Bool.and_eq_true] at h
    obtain ⟨p', q', e1, e2, h1, h2, h3, h4, h5⟩ := twoD_int h.1
    cases e1
    cases e2
    have := of_decide_eq_true h.2
    rw [Int.toNat_natCast, Int.toNat_natCast] at this
    exact ⟨p', q', rfl, rfl, h1, h2, h5, h4, this⟩
  · cases h
theorem giveD_of {ns : List Int} {p q : Nat} (h : MayG ns p q) : giveD ns (.int p) (.int q) = true := by
  have h1 := h.pj
  have h2 := h.ge
  rw [giveD_eq, twoD_eq, hasD_of h.hi (by omega), hasD_of h.hj h1, decide_eq_true (show (p : Int) ≠ q by have := h.ne; omega), Int.toNat_natCast, Int.toNat_natCast, decide_eq_true h2]
  rfl
theorem getD_at {ns : List Int} {p : Nat} (h : p < ns.length) : (ns.map V.int)[p]? = some (.int (ns.getD p 0)) := by
  rw [List.getElem?_map, List.getD_eq_getElem?_getD, List.getElem?_eq_getElem h]
  rfl
theorem ixN_nat {m j : Nat} (h : j < m) : ixN m (j : Int) = some j := by
  unfold ixN
  rw [if_pos (by omega), if_pos (by omega), Int.toNat_natCast]
theorem ixN_neg1 {m : Nat} (h : 1 ≤ m) : ixN m (-1) = some (m - 1) := by
  unfold ixN
  rw [if_neg (by decide), if_pos (by omega)]
  congr 1
  omega
theorem atI_neg1 {α : Type} {xs : List α} {v : α} (h : 1 ≤ xs.length) (e : xs[xs.length - 1]? = some v) : atI xs (-1) = some v := by
  unfold atI
  rw [ixN_neg1 h]
  exact e
/-! ### pairs in the heap -/
def prO (c : Int × Int) : Option HO := some (.tup [.int c.1, .int c.2])
def PrAt (H : Hp) (ts : List Addr) (cs : List (Int × Int)) : Prop := ts.map H = cs.map prO
theorem PrAt.nil {H : Hp} : PrAt H [] [] := rfl
theorem PrAt.len {H : Hp} {ts : List Addr} {cs : List (Int × Int)} (h : PrAt H ts cs) : ts.length = cs.length := by
  have := congrArg List.length h
  rw [List.length_map, List.length_map] at this
  exact this
theorem PrAt.get {H : Hp} {ts : List Addr} {cs : List (Int × Int)} (h : PrAt H ts cs) {k : Nat} {t : Addr} (e : ts[k]? = some t) : ∃ c, cs[k]? = some c ∧ H t = some (.tup [.int c.1, .int c.2]) := by
  have z : (ts.map H)[k]? = some (H t) := by rw [List.getElem?_map, e]; rfl
  rw [h, List.getElem?_map] at z
  cases hc : cs[k]? with
  | none => rw [hc] at z; cases z
  | some c =>
    rw [hc] at z
    exact ⟨c, rfl, (Option.some.inj z).symm⟩
theorem PrAt.mem {H : Hp} {ts : List Addr} {cs : List (Int × Int)} (h : PrAt H ts cs) {t : Addr} (e : t ∈ ts) : ∃ c ∈ cs, H t = some (.tup [.int c.1, .int c.2]) := by
  obtain ⟨k, hk, rfl⟩ := List.getElem_of_mem e
  obtain ⟨c, h1, h2⟩ := h.get (List.getElem?_eq_getElem hk)
  exact ⟨c, List.mem_of_getElem? h1, h2⟩
theorem PrAt.mono {H H' : Hp} {ts : List Addr} {cs : List (Int × Int)} (h : PrAt H ts cs) (s : ∀ a o, (∃ x y, o = HO.tup [.int x, .int y]) → H a = some o → H' a = some o) : PrAt H' ts cs := by
  unfold PrAt at h ⊢
  rw [← h]
  refine List.map_congr_left fun a ha => ?_
  obtain ⟨c, _, e⟩ := PrAt.mem h ha
  rw [e, s a _ ⟨_, _, rfl⟩ e]
theorem PrAt.same {H H' : Hp} {ts : List Addr} {cs : List (Int × Int)} (h : PrAt H ts cs) (s : Same H H') : PrAt H' ts cs := h.mono fun a o _ e => s a o e
theorem PrAt.lst {H : Hp} {D : Addr} {xs ys : List V} {ts : List Addr} {cs : List (Int × Int)} (h : PrAt H ts cs) (hD : H D = some (.lst xs)) : PrAt (upd H D (.lst ys)) ts cs := h.mono fun a o ho e => by
  rw [upd_ne]
  · exact e
  · rintro rfl
    obtain ⟨x, y, rfl⟩ := ho
    rw [hD] at e
    cases e
theorem PrAt.snoc {H : Hp} {ts : List Addr} {cs : List (Int × Int)} {t : Addr} {c : Int × Int} (h : PrAt H ts cs) (e : H t = some (.tup [.int c.1, .int c.2])) : PrAt H (ts ++ [t]) (cs ++ [c]) := by
  unfold PrAt at h ⊢
  rw [List.map_append, List.map_append, h]
  show _ ++ [H t] = _ ++ [prO c]
  rw [e]
  rfl
def prD (c : Int × Int) : PyData := .tuple [.int c.1, .int c.2]
theorem dpPairs {K : PySem.W.Frag} {H : Hp} : ∀ {ts : List Addr} {cs : List (Int × Int)}, PrAt H ts cs → DpAll K H (ts.map V.ref) (cs.map prD)
  | [], [], _ => .nil
  | [], _ :: _, h => nomatch (congrArg List.length h : (0 : Nat) = _)
  | _ :: _, [], h => nomatch (congrArg List.length h : _ = (0 : Nat))
  | t :: ts, c :: cs, h => by
    have h1 : H t = prO c := (List.cons.inj h).1
    have h2 : PrAt H ts cs := (List.cons.inj h).2
    exact .cons (.tup (SqT.of h1) (.cons (.int c.1) (.cons (.int c.2) .nil))) (dpPairs h2)
theorem lay_prs : ∀ cs : List (Int × Int), PyData.canLayAll0 (cs.map prD) = true
  | [] => rfl
  | c :: cs => by rw [List.map_cons, PyData.canLayAll0, lay_prs cs]; rfl
theorem depth_prs : ∀ cs : List (Int × Int), PyData.depthAll (cs.map prD) ≤ 1
  | [] => Nat.zero_le _
  | c :: cs => by
    have := depth_prs cs
    rw [List.map_cons, PyData.depthAll]
    show max (0 + 1) _ ≤ 1
    omega
theorem shapedL_prs (cs : List (Int × Int)) : SeqAt.shaped (.list (cs.map prD)) = true := by
  unfold SeqAt.shaped
  rw [PyData.canLay0, lay_prs, PyData.depth]
  have := depth_prs cs
  rcases (show PyData.depthAll (cs.map prD) = 0 ∨ PyData.depthAll (cs.map prD) = 1 by omega) with h | h <;> rw [h] <;> rfl
theorem shapedT_prs (cs : List (Int × Int)) : SeqAt.shaped (.tuple (cs.map prD)) = true := by
  unfold SeqAt.shaped
  rw [PyData.canLay0, lay_prs, PyData.depth]
  have := depth_prs cs
  rcases (show PyData.depthAll (cs.map prD) = 0 ∨ PyData.depthAll (cs.map prD) = 1 by omega) with h | h <;> rw [h] <;> rfl
/-! ### all deeds -/
def rowD (ns : List Int) (hs : List Int) (i : Int) : List (Int × Int) := (hs.filter fun j => giveD ns (.int i) (.int j)).map fun j => (i, j)
def dlL (ns hs us : List Int) : List (Int × Int) := us.flatMap (rowD ns hs)
def dl (ns : List Int) : List (Int × Int) := dlL ns (hold ns ns.length) (hold ns ns.length)
theorem dlL_snoc (ns hs us : List Int) (i : Int) : dlL ns hs (us ++ [i]) = dlL ns hs us ++ rowD ns hs i := by
  unfold dlL
  rw [List.flatMap_append]
  show _ ++ (rowD ns hs i ++ []) = _
  rw [List.append_nil]
theorem rowD_snoc (ns us : List Int) (i j : Int) : rowD ns (us ++ [j]) i = rowD ns us i ++ (if giveD ns (.int i) (.int j) = true then [(i, j)] else []) := by
  unfold rowD
  rw [List.filter_append, List.map_append]
  congr 1
  by_cases h : giveD ns (.int i) (.int j) = true
  · rw [if_pos h, List.filter_cons_of_pos (p := fun j => giveD ns (.int i) (.int j)) h]; rfl
  · rw [if_neg h, List.filter_cons_of_neg (p := fun j => giveD ns (.int i) (.int j)) h]; rfl
theorem rowD_len (ns hs : List Int) (i : Int) : (rowD ns hs i).length ≤ hs.length := by
  unfold rowD
  rw [List.length_map]
  exact List.length_filter_le _ _
theorem dlL_len (ns hs : List Int) : ∀ us : List Int, (dlL ns hs us).length ≤ us.length * hs.length
  | [] => Nat.zero_le _
  | u :: us => by
    have h1 := dlL_len ns hs us
    have h2 := rowD_len ns hs u
    unfold dlL at h1 ⊢
    rw [List.flatMap_cons, List.length_append, List.length_cons, Nat.add_mul]
    omega
theorem dl_len (ns : List Int) : (dl ns).length ≤ ns.length * ns.length := by
  have h := hold_len ns ns.length
  exact Nat.le_trans (dlL_len ns _ _) (Nat.mul_le_mul h h)
theorem dl_may {ns : List Int} {c : Int × Int} (h : c ∈ dl ns) : ∃ i j : Nat, c = ((i : Int), (j : Int)) ∧ MayG ns i j := by
  unfold dl dlL at h
  obtain ⟨i, hi, hc⟩ := List.mem_flatMap.mp h
  unfold rowD at hc
  obtain ⟨j, hj, rfl⟩ := List.mem_map.mp hc
  obtain ⟨p, q, e1, e2, m⟩ := giveD_may (List.mem_filter.mp hj).2
  cases e1
  cases e2
  exact ⟨p, q, rfl, m⟩
theorem hold_mem {ns : List Int} {p : Nat} (h : p < ns.length) (h0 : 0 < ns.getD p 0) : (p : Int) ∈ hold ns ns.length := by
  unfold hold
  exact List.mem_map.mpr ⟨p, List.mem_filter.mpr ⟨List.mem_range.mpr h, decide_eq_true h0⟩, rfl⟩
theorem mem_dl {ns : List Int} {i j : Nat} (h : MayG ns i j) : ((i : Int), (j : Int)) ∈ dl ns := by
  have h1 := h.pj
  have h2 := h.ge
  unfold dl dlL
  refine List.mem_flatMap.mpr ⟨(i : Int), hold_mem h.hi (by omega), ?_⟩
  unfold rowD
  exact List.mem_map.mpr ⟨(j : Int), List.mem_filter.mpr ⟨hold_mem h.hj h1, giveD_of h⟩, rfl⟩
end MG

/-! MG: readings of comprehensions that laws use often, for any slots -/
namespace MG
open PySem PySem.Spec PyProof.Rows L2
theorem pt_never {X : Cx} {e : Expr} : PT X e (fun _ _ _ => False) := ⟨fun _ _ _ _ _ _ h => h.elim⟩
theorem pe_never {X : Cx} {e : Expr} : PE X e (fun _ _ _ => False) := ⟨fun _ _ _ _ _ _ h => h.elim⟩
def cnt (ns : List Int) : Nat := (ns.filter fun n => decide (0 < n)).length
theorem cnt_hold (ns : List Int) : cnt ns = (hold ns ns.length).length := (hold_all ns).symm
theorem same_updG {H : Hp} {p : Addr} {o : HO} (h : H p = none) : Same H (upd H p o) := fun b x e => by
  rw [upd_ne (ne_of_none e h)]
  exact e
/-- a comprehension over a tuple of ints, test and item without a trace -/
theorem lc_pureT {K : PySem.W.Frag} {a : Addr} {ns : List Int} {g : TG} {tt : TT} {te : TE} {vs : List Nat} {σ : L2.St} {H1 : Hp} {D : Addr} {Qd : Hp → Prop} (e : H1 a = some (.tup (ns.map V.int))) (hl : ns.length ≤ 1000) (nD : H1 D = none) (p : Int → Bool) (f : Int → V)
    (hs : ∀ n ∈ ns, ∀ (H : Hp) (Y : V → Hp → Prop) (N : Hp → Prop), Same H1 H → (p n = true → ∀ H4, Same H H4 → Y (f n) H4) → (p n = false → ∀ H4, Same H H4 → N H4) → g (.int n) (wipe σ vs) H fun σ2 H2 => wipe σ2 vs = wipe σ vs ∧ tt σ2 H2 fun b H3 => if b = true then te σ2 H3 Y else N H3)
    (hd : ∀ H', Same H1 H' → H' D = some (.lst ((ns.filter p).map f)) → Qd H') :
    ∃ W : Nat → Nat → Hp → Prop, (∃ m, W 0 m (upd H1 D (.lst []))) ∧ ∀ i m H, W i m H →
      ((Itt K a).stop i H ∧ Qd H) ∨ ((Itt K a).go i H ∧ ∃ Nx : Hp → Prop, (∀ H', Nx H' → ∃ m', m' < m ∧ W (i + 1) m' H') ∧ ∀ x H', (Itt K a).yld i H x H' → g x (wipe σ vs) H' fun σ2 H2 => wipe σ2 vs = wipe σ vs ∧ tt σ2 H2 fun b H3 =>
        if b = true then te σ2 H3 fun y H4 => ∃ acc, H4 D = some (.lst acc) ∧ acc.length < sizeLine ∧ Nx (upd H4 D (.lst (acc ++ [y]))) else Nx H3) := by
  refine lc_tup (K := K) (a := a) (xs := ns.map V.int) (fun i H' => Same H1 H' ∧ H' D = some (.lst (((ns.take i).filter p).map f))) ⟨same_updG nD, upd_same⟩ ?_ ?_ ?_
  · rintro i H' _ ⟨sm, _⟩
    exact SqT.of (sm _ _ e)
  · rintro i x H' hx ⟨sm, hD⟩
    rw [List.getElem?_map] at hx
    obtain ⟨n, hn, rfl⟩ := Option.map_eq_some_iff.mp hx
    have et : ns.take (i + 1) = ns.take i ++ [n] := by rw [List.take_add_one, hn]; rfl
    refine hs n (List.mem_of_getElem? hn) H' _ _ sm (fun hp H4 s4 => ?_) (fun hp H4 s4 => ?_)
    · refine ⟨_, s4 _ _ hD, ?_, ?_, ?_⟩
      · rw [List.length_map]
        refine small1000 (Nat.le_trans (List.length_filter_le _ _) ?_)
        rw [List.length_take]; omega
      · intro c o hc
        rw [upd_ne (ne_of_none hc nD)]
        exact s4 _ _ (sm c o hc)
      · rw [upd_same, et, List.filter_append, List.filter_cons_of_pos hp, List.map_append]
        rfl
    · refine ⟨sm.trans s4, ?_⟩
      rw [et, List.filter_append, List.filter_cons_of_neg (by rw [hp]; exact Bool.false_ne_true), List.filter_nil, List.append_nil]
      exact s4 _ _ hD
  · rintro H' ⟨sm, hD⟩
    rw [List.length_map, List.take_length] at hD
    exact hd H' sm hD
theorem lc_pureL {K : PySem.W.Frag} {a : Addr} {ns : List Int} {g : TG} {tt : TT} {te : TE} {vs : List Nat} {σ : L2.St} {H1 : Hp} {D : Addr} {Qd : Hp → Prop} (e : H1 a = some (.lst (ns.map V.int))) (hl : ns.length ≤ 1000) (nD : H1 D = none) (p : Int → Bool) (f : Int → V)
    (hs : ∀ n ∈ ns, ∀ (H : Hp) (Y : V → Hp → Prop) (N : Hp → Prop), Same H1 H → (p n = true → ∀ H4, Same H H4 → Y (f n) H4) → (p n = false → ∀ H4, Same H H4 → N H4) → g (.int n) (wipe σ vs) H fun σ2 H2 => wipe σ2 vs = wipe σ vs ∧ tt σ2 H2 fun b H3 => if b = true then te σ2 H3 Y else N H3)
    (hd : ∀ H', Same H1 H' → H' D = some (.lst ((ns.filter p).map f)) → Qd H') :
    ∃ W : Nat → Nat → Hp → Prop, (∃ m, W 0 m (upd H1 D (.lst []))) ∧ ∀ i m H, W i m H →
      ((Itl K a).stop i H ∧ Qd H) ∨ ((Itl K a).go i H ∧ ∃ Nx : Hp → Prop, (∀ H', Nx H' → ∃ m', m' < m ∧ W (i + 1) m' H') ∧ ∀ x H', (Itl K a).yld i H x H' → g x (wipe σ vs) H' fun σ2 H2 => wipe σ2 vs = wipe σ vs ∧ tt σ2 H2 fun b H3 =>
        if b = true then te σ2 H3 fun y H4 => ∃ acc, H4 D = some (.lst acc) ∧ acc.length < sizeLine ∧ Nx (upd H4 D (.lst (acc ++ [y]))) else Nx H3) := by
  refine lc_list (K := K) (a := a) (xs := ns.map V.int) (fun i H' => Same H1 H' ∧ H' D = some (.lst (((ns.take i).filter p).map f))) ⟨same_updG nD, upd_same⟩ ?_ ?_ ?_
  · rintro i H' _ ⟨sm, _⟩
    exact SqL.of (sm _ _ e)
  · rintro i x H' hx ⟨sm, hD⟩
    rw [List.getElem?_map] at hx
    obtain ⟨n, hn, rfl⟩ := Option.map_eq_some_iff.mp hx
    have et : ns.take (i + 1) = ns.take i ++ [n] := by rw [List.take_add_one, hn]; rfl
    refine hs n (List.mem_of_getElem? hn) H' _ _ sm (fun hp H4 s4 => ?_) (fun hp H4 s4 => ?_)
    · refine ⟨_, s4 _ _ hD, ?_, ?_, ?_⟩
      · rw [List.length_map]
        refine small1000 (Nat.le_trans (List.length_filter_le _ _) ?_)
        rw [List.length_take]; omega
      · intro c o hc
        rw [upd_ne (ne_of_none hc nD)]
        exact s4 _ _ (sm c o hc)
      · rw [upd_same, et, List.filter_append, List.filter_cons_of_pos hp, List.map_append]
        rfl
    · refine ⟨sm.trans s4, ?_⟩
      rw [et, List.filter_append, List.filter_cons_of_neg (by rw [hp]; exact Bool.false_ne_true), List.filter_nil, List.append_nil]
      exact s4 _ _ hD
  · rintro H' ⟨sm, hD⟩
    rw [List.length_map, List.take_length] at hD
    exact hd H' sm hD
theorem wipe1 (σ : L2.St) (i : Nat) (x : Option V) : wipe ((wipe σ [i]).set i x) [i] = wipe σ [i] := by
  show ((σ.set i none).set i x).set i none = σ.set i none
  rw [List.set_set, List.set_set]
theorem wipe2 (σ : L2.St) {i j : Nat} (h : i ≠ j) (x y : Option V) : wipe (((wipe σ [i, j]).set i x).set j y) [i, j] = wipe σ [i, j] := by
  show (((((σ.set j none).set i none).set i x).set j y).set j none).set i none = (σ.set j none).set i none
  rw [List.set_set, List.set_set, List.set_comm x none h, List.set_set, List.set_set]
/-- len([n for n in row if n > 0]) -/
theorem cntT {K : PySem.W.Frag} {r i : Nat} {σ : L2.St} {H : Hp} {Q : VK} {a : Addr} {ns : List Int} (hr : σ[r]? = some (some (.ref a))) (hi : i < σ.length) (e : H a = some (.tup (ns.map V.int))) (hl : ns.length ≤ 1000) (q : ∀ H', Same H H' → Q (.int (cnt ns : Nat)) H') :
    tCB (fun xs H Q => ∃ p ys, xs = [.ref p] ∧ (SqL K H p ys ∨ SqT K H p ys) ∧ Q (.int ys.length) H) (tCons (tLc (iTup K (tVar r)) (gName i) (tTest (tOp (rI0 fun i j => .bl (decide (j < i))) (tVar i) (tC (.int 0)))) (tVar i) [i]) tNil) σ H Q := by
  refine ⟨_, hr, a, rfl, ⟨_, SqT.of e⟩, fun D nD => ?_⟩
  refine lc_pureT (K := K) e hl nD (fun n => decide (0 < n)) V.int ?_ ?_
  · intro n _ H' Y N sm y1 y0
    have g1 : ((wipe σ [i]).set i (some (V.int n)))[i]? = some (some (V.int n)) := List.getElem?_set_self (by rw [wipe_length]; exact hi)
    refine ⟨wipe1 σ i _, _, g1, n, 0, rfl, rfl, _, rfl, ?_⟩
    cases h : decide (0 < n) with
    | true => exact iteT ⟨_, g1, y1 h H' (.refl _)⟩
    | false => exact iteF (y0 h H' (.refl _))
  · intro H' sm hD
    refine ⟨D, _, rfl, .inl (SqL.of hD), ?_⟩
    rw [List.length_map]
    exact q H' sm
/-- the same, its end alone -/
theorem cntW {K : PySem.W.Frag} {i : Nat} {σ : L2.St} {H : Hp} {a D : Addr} {ns : List Int} {Qd : Hp → Prop} (hi : i < σ.length) (e : H a = some (.tup (ns.map V.int))) (hl : ns.length ≤ 1000) (nD : H D = none) (q : ∀ H', Same H H' → H' D = some (.lst ((ns.filter fun n => decide (0 < n)).map V.int)) → Qd H') :
    ∃ W : Nat → Nat → Hp → Prop, (∃ m, W 0 m (upd H D (.lst []))) ∧ ∀ j m H, W j m H →
      ((Itt K a).stop j H ∧ Qd H) ∨ ((Itt K a).go j H ∧ ∃ Nx : Hp → Prop, (∀ H', Nx H' → ∃ m', m' < m ∧ W (j + 1) m' H') ∧ ∀ x H', (Itt K a).yld j H x H' → gName i x (wipe σ [i]) H' fun σ2 H2 => wipe σ2 [i] = wipe σ [i] ∧ tTest (tOp (rI0 fun i j => .bl (decide (j < i))) (tVar i) (tC (.int 0))) σ2 H2 fun b H3 =>
        if b = true then tVar i σ2 H3 fun y H4 => ∃ acc, H4 D = some (.lst acc) ∧ acc.length < sizeLine ∧ Nx (upd H4 D (.lst (acc ++ [y]))) else Nx H3) := by
  refine lc_pureT (K := K) e hl nD (fun n => decide (0 < n)) V.int ?_ q
  intro n _ H' Y N sm y1 y0
  have g1 : ((wipe σ [i]).set i (some (V.int n)))[i]? = some (some (V.int n)) := List.getElem?_set_self (by rw [wipe_length]; exact hi)
  refine ⟨wipe1 σ i _, _, g1, n, 0, rfl, rfl, _, rfl, ?_⟩
  cases h : decide (0 < n) with
  | true => exact iteT ⟨_, g1, y1 h H' (.refl _)⟩
  | false => exact iteF (y0 h H' (.refl _))
theorem decI (a : Int) (b : Int) : decide (V.int a = V.int b) = decide (a = b) := by
  by_cases h : a = b
  · rw [h]; simp
  · rw [decide_eq_false h, decide_eq_false (fun z => h (V.int.inj z))]
/-- any([one == 0 and two > 0 for one, two in zip(here, there)]) -/
theorem hfnT {K : PySem.W.Frag} {r1 r2 i j : Nat} {σ : L2.St} {H : Hp} {Q : VK} {a b : Addr} {r o : List Int} (h1 : σ[r1]? = some (some (.ref a))) (h2 : σ[r2]? = some (some (.ref b))) (hij : i ≠ j) (hi : i < σ.length) (hj : j < σ.length)
    (ea : H a = some (.tup (r.map V.int))) (eb : H b = some (.tup (o.map V.int))) (hlen : r.length = o.length) (hl : r.length ≤ 1000) (q : ∀ H', Same H H' → Q (.bl (hfn r o)) H') :
    tCB (rAny K) (tCons (tLc (RZ.iZipA K (tCons (tVar r1) (tCons (tVar r2) tNil))) (gTup K 2 (gCons (gName i) (gCons (gName j) gNil))) tYes (tAndV (tOp rEq (tVar i) (tC (.int 0))) (tOp (rI0 fun i j => .bl (decide (j < i))) (tVar j) (tC (.int 0)))) [i, j]) tNil) σ H Q := by
  refine ⟨_, h1, _, h2, a, b, _, _, rfl, .inr ⟨SqT.of ea, SqT.of eb, fun D nD => ?_⟩⟩
  let L : List Bool := (r.zip o).map fun p => decide (p.1 = 0) && decide (p.2 > 0)
  have hL : L.length = r.length := by
    show ((r.zip o).map _).length = _
    rw [List.length_map, List.length_zip]; omega
  refine lc_it (walk_zipT (K := K) (a := a) (b := b) (xs := r.map V.int) (ys := o.map V.int) (n := r.length) (by rw [List.length_map, List.length_map]; omega)) (fun i H' => Same H H' ∧ H' D = some (.lst ((L.take i).map V.bl))) ⟨same_updG nD, upd_same⟩ ?_ ?_ ?_
  · intro i H' _ h
    exact ⟨SqT.of (h.1 _ _ ea), SqT.of (h.1 _ _ eb)⟩
  · rintro m x H' H'' hm ⟨sm, hD⟩ ⟨T, x1, x2, rfl, nT, rfl, e1, e2⟩
    have hm2 : m < o.length := by omega
    have e1' : x1 = .int r[m] := by
      have z : (r.map V.int)[m]? = some x1 := e1
      rw [List.getElem?_map, List.getElem?_eq_getElem hm] at z
      exact (Option.some.inj z).symm
    have e2' : x2 = .int o[m] := by
      have z : (o.map V.int)[m]? = some x2 := e2
      rw [List.getElem?_map, List.getElem?_eq_getElem hm2] at z
      exact (Option.some.inj z).symm
    subst e1' e2'
    have smT : Same H' (upd H' T (.tup [.int r[m], .int o[m]])) := same_updG nT
    have hz : L[m]? = some (decide (r[m] = 0) && decide (o[m] > 0)) := by
      show ((r.zip o).map _)[m]? = _
      rw [List.getElem?_map, (List.getElem?_zip_eq_some (z := (r[m], o[m]))).mpr ⟨List.getElem?_eq_getElem hm, List.getElem?_eq_getElem hm2⟩]
      rfl
    have fin : ∀ y, y = (decide (r[m] = 0) && decide (o[m] > 0)) → ∃ acc, upd H' T (.tup [.int r[m], .int o[m]]) D = some (.lst acc) ∧ acc.length < sizeLine ∧ Same H (upd (upd H' T (.tup [.int r[m], .int o[m]])) D (.lst (acc ++ [V.bl y]))) ∧ upd (upd H' T (.tup [.int r[m], .int o[m]])) D (.lst (acc ++ [V.bl y])) D = some (.lst ((L.take (m + 1)).map V.bl)) := fun y hy => by
      refine ⟨_, smT _ _ hD, ?_, ?_, ?_⟩
      · rw [List.length_map, List.length_take]
        exact small1000 (by omega)
      · intro c o hc
        rw [upd_ne (ne_of_none hc nD)]
        exact smT _ _ (sm c o hc)
      · rw [upd_same, List.take_add_one, hz, List.map_append, hy]
        rfl
    have si : i < (wipe σ [i, j]).length := by rw [wipe_length]; exact hi
    have sj : j < (wipe σ [i, j]).length := by rw [wipe_length]; exact hj
    have gi : (((wipe σ [i, j]).set i (some (V.int r[m]))).set j (some (V.int o[m])))[i]? = some (some (V.int r[m])) := by
      rw [List.getElem?_set_ne (Ne.symm hij)]; exact List.getElem?_set_self si
    have gj : (((wipe σ [i, j]).set i (some (V.int r[m]))).set j (some (V.int o[m])))[j]? = some (some (V.int o[m])) := List.getElem?_set_self (by rw [List.length_set]; exact sj)
    refine ⟨T, [.int r[m], .int o[m]], rfl, .inl (.inl upd_same), rfl, .int r[m], [.int o[m]], rfl, .int o[m], [], rfl, rfl, wipe2 σ hij _ _, ?_⟩
    refine ⟨_, gi, rfl, _, rfl, ?_⟩
    rw [decI]
    refine ite2 (fun hp => ?_) (fun hp => ?_)
    · refine ⟨_, gj, _, 0, rfl, rfl, ?_⟩
      exact fin _ (by rw [hp]; rfl)
    · have hp' : decide (r[m] = 0) = false := by cases h : decide (r[m] = 0) <;> first | rfl | exact absurd h hp
      exact fin _ (by rw [hp']; rfl)
  · rintro H' ⟨sm, hD⟩
    rw [← hL, List.take_length] at hD
    refine ⟨D, L, rfl, SqL.of hD, ?_⟩
    have e : L.any id = hfn r o := by
      show ((r.zip o).map _).any id = _
      unfold hfn
      rw [List.any_map]
      rfl
    rw [e]
    exact q H' sm
/-- any([two > 0 and one == 0 for one, two in zip(here, there)]) -/
theorem hfnR {K : PySem.W.Frag} {r1 r2 i j : Nat} {σ : L2.St} {H : Hp} {Q : VK} {a b : Addr} {r o : List Int} (h1 : σ[r1]? = some (some (.ref a))) (h2 : σ[r2]? = some (some (.ref b))) (hij : i ≠ j) (hi : i < σ.length) (hj : j < σ.length)
    (ea : H a = some (.tup (r.map V.int))) (eb : H b = some (.tup (o.map V.int))) (hlen : r.length = o.length) (hl : r.length ≤ 1000) (q : ∀ H', Same H H' → Q (.bl (hfn r o)) H') :
    tCB (rAny K) (tCons (tLc (RZ.iZipA K (tCons (tVar r1) (tCons (tVar r2) tNil))) (gTup K 2 (gCons (gName i) (gCons (gName j) gNil))) tYes (tAndV (tOp (rI0 fun i j => .bl (decide (j < i))) (tVar j) (tC (.int 0))) (tOp rEq (tVar i) (tC (.int 0)))) [i, j]) tNil) σ H Q := by
  refine ⟨_, h1, _, h2, a, b, _, _, rfl, .inr ⟨SqT.of ea, SqT.of eb, fun D nD => ?_⟩⟩
  let L : List Bool := (r.zip o).map fun p => decide (p.1 = 0) && decide (p.2 > 0)
  have hL : L.length = r.length := by
    show ((r.zip o).map _).length = _
    rw [List.length_map, List.length_zip]; omega
  refine lc_it (walk_zipT (K := K) (a := a) (b := b) (xs := r.map V.int) (ys := o.map V.int) (n := r.length) (by rw [List.length_map, List.length_map]; omega)) (fun i H' => Same H H' ∧ H' D = some (.lst ((L.take i).map V.bl))) ⟨same_updG nD, upd_same⟩ ?_ ?_ ?_
  · intro i H' _ h
    exact ⟨SqT.of (h.1 _ _ ea), SqT.of (h.1 _ _ eb)⟩
  · rintro m x H' H'' hm ⟨sm, hD⟩ ⟨T, x1, x2, rfl, nT, rfl, e1, e2⟩
    have hm2 : m < o.length := by omega
    have e1' : x1 = .int r[m] := by
      have z : (r.map V.int)[m]? = some x1 := e1
      rw [List.getElem?_map, List.getElem?_eq_getElem hm] at z
      exact (Option.some.inj z).symm
    have e2' : x2 = .int o[m] := by
      have z : (o.map V.int)[m]? = some x2 := e2
      rw [List.getElem?_map, List.getElem?_eq_getElem hm2] at z
      exact (Option.some.inj z).symm
    subst e1' e2'
    have smT : Same H' (upd H' T (.tup [.int r[m], .int o[m]])) := same_updG nT
    have hz : L[m]? = some (decide (r[m] = 0) && decide (o[m] > 0)) := by
      show ((r.zip o).map _)[m]? = _
      rw [List.getElem?_map, (List.getElem?_zip_eq_some (z := (r[m], o[m]))).mpr ⟨List.getElem?_eq_getElem hm, List.getElem?_eq_getElem hm2⟩]
      rfl
    have fin : ∀ y, y = (decide (r[m] = 0) && decide (o[m] > 0)) → ∃ acc, upd H' T (.tup [.int r[m], .int o[m]]) D = some (.lst acc) ∧ acc.length < sizeLine ∧ Same H (upd (upd H' T (.tup [.int r[m], .int o[m]])) D (.lst (acc ++ [V.bl y]))) ∧ upd (upd H' T (.tup [.int r[m], .int o[m]])) D (.lst (acc ++ [V.bl y])) D = some (.lst ((L.take (m + 1)).map V.bl)) := fun y hy => by
      refine ⟨_, smT _ _ hD, ?_, ?_, ?_⟩
      · rw [List.length_map, List.length_take]
        exact small1000 (by omega)
      · intro c o hc
        rw [upd_ne (ne_of_none hc nD)]
        exact smT _ _ (sm c o hc)
      · rw [upd_same, List.take_add_one, hz, List.map_append, hy]
        rfl
    have si : i < (wipe σ [i, j]).length := by rw [wipe_length]; exact hi
    have sj : j < (wipe σ [i, j]).length := by rw [wipe_length]; exact hj
    have gi : (((wipe σ [i, j]).set i (some (V.int r[m]))).set j (some (V.int o[m])))[i]? = some (some (V.int r[m])) := by
      rw [List.getElem?_set_ne (Ne.symm hij)]; exact List.getElem?_set_self si
    have gj : (((wipe σ [i, j]).set i (some (V.int r[m]))).set j (some (V.int o[m])))[j]? = some (some (V.int o[m])) := List.getElem?_set_self (by rw [List.length_set]; exact sj)
    refine ⟨T, [.int r[m], .int o[m]], rfl, .inl (.inl upd_same), rfl, .int r[m], [.int o[m]], rfl, .int o[m], [], rfl, rfl, wipe2 σ hij _ _, ?_⟩
    refine ⟨_, gj, _, 0, rfl, rfl, _, rfl, ?_⟩
    refine ite2 (fun hp => ?_) (fun hp => ?_)
    · refine ⟨_, gi, rfl, ?_⟩
      rw [decI]
      exact fin _ (by rw [show decide (o[m] > 0) = true from hp, Bool.and_true])
    · have hp' : decide (o[m] > 0) = false := by cases h : decide (o[m] > 0) <;> first | rfl | exact absurd h hp
      exact fin _ (by rw [hp', Bool.and_false])
  · rintro H' ⟨sm, hD⟩
    rw [← hL, List.take_length] at hD
    refine ⟨D, L, rfl, SqL.of hD, ?_⟩
    have e : L.any id = hfn r o := by
      show ((r.zip o).map _).any id = _
      unfold hfn
      rw [List.any_map]
      rfl
    rw [e]
    exact q H' sm
/-- [place for place, amount in enumerate(row) if amount > 0], its end alone -/
theorem holdW {K : PySem.W.Frag} {i j : Nat} {σ : L2.St} {H : Hp} {a D : Addr} {ns : List Int} {Qd : Hp → Prop} (hij : i ≠ j) (hi : i < σ.length) (hj : j < σ.length) (e : H a = some (.tup (ns.map V.int))) (hl : ns.length ≤ 1000) (nD : H D = none) (q : ∀ H', Same H H' → H' D = some (.lst ((hold ns ns.length).map V.int)) → Qd H') :
    ∃ W : Nat → Nat → Hp → Prop, (∃ m, W 0 m (upd H D (.lst []))) ∧ ∀ k m H, W k m H →
      ((IteT K a).stop k H ∧ Qd H) ∨ ((IteT K a).go k H ∧ ∃ Nx : Hp → Prop, (∀ H', Nx H' → ∃ m', m' < m ∧ W (k + 1) m' H') ∧ ∀ x H', (IteT K a).yld k H x H' → gTup K 2 (gCons (gName i) (gCons (gName j) gNil)) x (wipe σ [i, j]) H' fun σ2 H2 => wipe σ2 [i, j] = wipe σ [i, j] ∧ tTest (tOp (rI0 fun i j => .bl (decide (j < i))) (tVar j) (tC (.int 0))) σ2 H2 fun b H3 =>
        if b = true then tVar i σ2 H3 fun y H4 => ∃ acc, H4 D = some (.lst acc) ∧ acc.length < sizeLine ∧ Nx (upd H4 D (.lst (acc ++ [y]))) else Nx H3) := by
  refine lc_it (walk_enumT (K := K) (a := a) (xs := ns.map V.int)) (fun i H' => Same H H' ∧ H' D = some (.lst ((hold ns i).map V.int))) ⟨same_updG nD, upd_same⟩ ?_ ?_ ?_
  · intro i H' _ h
    exact SqT.of (h.1 _ _ e)
  · rintro m x H' H'' hm ⟨sm, hD⟩ ⟨T, x1, x2, rfl, nT, rfl, e1, e2⟩
    rw [List.length_map] at hm
    have e1' : x1 = .int (m : Nat) := (Option.some.inj e1).symm
    have e2' : x2 = .int ns[m] := by
      have z : (ns.map V.int)[m]? = some x2 := e2
      rw [List.getElem?_map, List.getElem?_eq_getElem hm] at z
      exact (Option.some.inj z).symm
    subst e1' e2'
    have smT : Same H' (upd H' T (.tup [.int (m : Nat), .int ns[m]])) := same_updG nT
    have hg : ns.getD m 0 = ns[m] := by rw [List.getD_eq_getElem?_getD, List.getElem?_eq_getElem hm]; rfl
    have si : i < (wipe σ [i, j]).length := by rw [wipe_length]; exact hi
    have sj : j < (wipe σ [i, j]).length := by rw [wipe_length]; exact hj
    have gi : (((wipe σ [i, j]).set i (some (V.int (m : Nat)))).set j (some (V.int ns[m])))[i]? = some (some (V.int (m : Nat))) := by
      rw [List.getElem?_set_ne (Ne.symm hij)]; exact List.getElem?_set_self si
    have gj : (((wipe σ [i, j]).set i (some (V.int (m : Nat)))).set j (some (V.int ns[m])))[j]? = some (some (V.int ns[m])) := List.getElem?_set_self (by rw [List.length_set]; exact sj)
    refine ⟨T, [.int (m : Nat), .int ns[m]], rfl, .inl (.inl upd_same), rfl, .int (m : Nat), [.int ns[m]], rfl, .int ns[m], [], rfl, rfl, wipe2 σ hij _ _, _, gj, ns[m], 0, rfl, rfl, _, rfl, ?_⟩
    refine ite2 (fun hp => ?_) (fun hp => ?_)
    · have hp' : 0 < ns[m] := of_decide_eq_true hp
      refine ⟨.int (m : Nat), gi, _, smT _ _ hD, ?_, ?_, ?_⟩
      · rw [List.length_map]
        exact small1000 (Nat.le_trans (hold_len ns m) (by omega))
      · intro c o hc
        rw [upd_ne (ne_of_none hc nD)]
        exact smT _ _ (sm c o hc)
      · rw [upd_same, hold_succ, hg, if_pos hp', List.map_append]
        rfl
    · have hp' : ¬ 0 < ns[m] := fun z => hp (decide_eq_true z)
      refine ⟨sm.trans smT, ?_⟩
      rw [hold_succ, hg, if_neg hp', List.append_nil]
      exact smT _ _ hD
  · rintro H' ⟨sm, hD⟩
    rw [List.length_map] at hD
    exact q H' sm hD
theorem hold_get {ns : List Int} {x : Int} (h : x ∈ hold ns ns.length) : ∃ p : Nat, x = p ∧ p < ns.length ∧ 0 < ns.getD p 0 := by
  unfold hold at h
  obtain ⟨p, hp, rfl⟩ := List.mem_map.mp h
  obtain ⟨h1, h2⟩ := List.mem_filter.mp hp
  exact ⟨p, rfl, List.mem_range.mp h1, of_decide_eq_true h2⟩
/-! ### lists of rows as data -/
def rowDt (r : List Int) : PyData := .tuple (r.map PyData.int)
theorem dpRows {K : PySem.W.Frag} {H : Hp} : ∀ {ts : List Addr}, (∀ t ∈ ts, ∃ xs : List Int, H t = some (.tup (xs.map V.int))) → ∃ rs : List (List Int), rs.length = ts.length ∧ DpAll K H (ts.map V.ref) (rs.map rowDt)
  | [], _ => ⟨[], rfl, .nil⟩
  | t :: ts, h => by
    obtain ⟨xs, e⟩ := h t List.mem_cons_self
    obtain ⟨rs, h1, h2⟩ := dpRows (K := K) fun u hu => h u (List.mem_cons_of_mem _ hu)
    exact ⟨xs :: rs, by rw [List.length_cons, List.length_cons, h1], .cons (.tup (SqT.of e) (dpIntsG xs)) h2⟩
theorem lay_rows : ∀ rs : List (List Int), PyData.canLayAll0 (rs.map rowDt) = true
  | [] => rfl
  | r :: rs => by
    rw [List.map_cons, PyData.canLayAll0, lay_rows rs, rowDt, PyData.canLay0, lay_intsG]; rfl
theorem depth_rows : ∀ rs : List (List Int), PyData.depthAll (rs.map rowDt) ≤ 1
  | [] => Nat.zero_le _
  | r :: rs => by
    have := depth_rows rs
    rw [List.map_cons, PyData.depthAll, rowDt, PyData.depth, depth_intsG]
    omega
theorem shapedL_rows (rs : List (List Int)) : SeqAt.shaped (.list (rs.map rowDt)) = true := by
  unfold SeqAt.shaped
  rw [PyData.canLay0, lay_rows, PyData.depth]
  have := depth_rows rs
  rcases (show PyData.depthAll (rs.map rowDt) = 0 ∨ PyData.depthAll (rs.map rowDt) = 1 by omega) with h | h <;> rw [h] <;> rfl
/-! ### good rows -/
structure Gd (ns : List Int) : Prop where
  nn : ∀ n ∈ ns, 0 ≤ n
  sum : ns.sum < 2 ^ 200
  len : ns.length ≤ 30
  pos : ∃ n ∈ ns, 0 < n
theorem mem_le_sumG : ∀ {l : List Int}, (∀ n ∈ l, 0 ≤ n) → ∀ n ∈ l, n ≤ l.sum
  | [], _, n, h => absurd h List.not_mem_nil
  | x :: l, h, n, hn => by
    have hl : ∀ m ∈ l, 0 ≤ m := fun m hm => h m (List.mem_cons_of_mem _ hm)
    have hs : ∀ {k : List Int}, (∀ m ∈ k, 0 ≤ m) → 0 ≤ k.sum := fun {k} => by
      induction k with
      | nil => intro _; exact Int.le_refl _
      | cons y k ih =>
        intro hk
        rw [List.sum_cons]
        have := hk y List.mem_cons_self
        have := ih fun m hm => hk m (List.mem_cons_of_mem _ hm)
        omega
    rw [List.sum_cons]
    rcases List.mem_cons.mp hn with rfl | hn
    · have := hs hl; omega
    · have := mem_le_sumG hl n hn
      have := h x List.mem_cons_self
      omega
theorem sum_le_mul {c : Int} : ∀ {l : List Int}, (∀ n ∈ l, n ≤ c) → l.sum ≤ l.length * c
  | [], _ => by simp
  | x :: l, h => by
    have h1 := sum_le_mul (c := c) (l := l) fun n hn => h n (List.mem_cons_of_mem _ hn)
    have h2 := h x List.mem_cons_self
    rw [List.sum_cons, List.length_cons]
    have : ((l.length + 1 : Nat) : Int) * c = l.length * c + c := by rw [Int.natCast_add, Int.add_mul]; omega
    omega
theorem Gd.deed {ns : List Int} {i j : Nat} (g : Gd ns) (m : MayG ns i j) : Gd (MG.deed ns i j) := by
  refine ⟨deed_nn m g.nn, by rw [deed_sum m]; exact g.sum, by rw [deed_len]; exact g.len, ?_⟩
  have := deed_get m j
  rw [if_pos rfl] at this
  exact ⟨_, getD_mem (by rw [deed_len]; exact m.hj), by rw [this]; have := m.pj; omega⟩
theorem brk_layG (r o : List Int) : ∀ x ∈ brkT r o, PyData.canLay0 (.str x) = true := by
  intro x hx
  unfold brkT at hx
  split at hx
  · cases hx
  · split at hx
    · rw [List.mem_singleton.mp hx]; decide +kernel
    · unfold MG.clausesOf at hx
      obtain ⟨y, hy, rfl⟩ := List.mem_map.mp hx
      have hy' := (List.mem_filter.mp hy).1
      unfold asked at hy'
      simp only [List.mem_cons, List.not_mem_nil, or_false] at hy'
      rcases hy' with h | h | h | h | h | h
      · rw [h]; exact (show PyData.canLay0 (.str "sum") = true by decide +kernel)
      · rw [h]; exact (show PyData.canLay0 (.str "nothing") = true by decide +kernel)
      · rw [h]; exact (show PyData.canLay0 (.str "measure") = true by decide +kernel)
      · rw [h]; exact (show PyData.canLay0 (.str "twos") = true by decide +kernel)
      · rw [h]; exact (show PyData.canLay0 (.str "odd ones") = true by decide +kernel)
      · rw [h]; exact (show PyData.canLay0 (.str "doubled") = true by decide +kernel)
end MG

/-! MG: what can be shown (repr), by data alone; amounts -/
namespace MG
open PySem PySem.Spec PyProof.Rows L2
def Sh (n c : Nat) (d : PyData) : Prop := d.showable = true ∧ d.depth ≤ n ∧ d.shown.length ≤ c
theorem Sh.le {n c n' c' : Nat} {d : PyData} (h : Sh n c d) (hn : n ≤ n') (hc : c ≤ c') : Sh n' c' d := ⟨h.1, Nat.le_trans h.2.1 hn, Nat.le_trans h.2.2 hc⟩
theorem Sh.int {i : Int} (h : i.natAbs < 2 ^ 300) : Sh 0 301 (.int i) := by
  refine ⟨?_, Nat.le_refl _, int_len (by decide) h⟩
  show decide (i.natAbs.log2 < 1920) = true
  refine decide_eq_true ?_
  by_cases h0 : i.natAbs = 0
  · rw [h0]; decide
  · exact Nat.lt_of_lt_of_le ((Nat.log2_lt h0).mpr h) (by decide)
theorem Sh.str (x : Str) {c : Nat} (h : (reprText x).length ≤ c) : Sh 0 c (.str x) := ⟨rfl, Nat.le_refl _, h⟩
theorem Sh.bool (b : Bool) : Sh 0 5 (.bool b) := ⟨rfl, Nat.le_refl _, by cases b <;> decide +kernel⟩
theorem Sh.none : Sh 0 4 .none := ⟨rfl, Nat.le_refl _, by decide +kernel⟩
theorem shs {n c : Nat} : ∀ {ds : List PyData}, (∀ d ∈ ds, Sh n c d) → PyData.showableAll ds = true ∧ PyData.depthAll ds ≤ n ∧ piled (PyData.shownAll ds) ≤ ds.length * (c + 2)
  | [], _ => ⟨rfl, Nat.zero_le _, by rw [PyData.shownAll, piled_nil]; exact Nat.zero_le _⟩
  | d :: ds, h => by
    obtain ⟨b, e, f⟩ := h d List.mem_cons_self
    obtain ⟨b2, e2, f2⟩ := shs (ds := ds) fun y hy => h y (List.mem_cons_of_mem _ hy)
    refine ⟨?_, ?_, ?_⟩
    · rw [PyData.showableAll, b, b2]; rfl
    · rw [PyData.depthAll]; exact Nat.max_le.mpr ⟨e, e2⟩
    · rw [PyData.shownAll, piled_cons, List.length_cons, Nat.add_mul, Nat.one_mul]
      omega
theorem Sh.tup {n c m : Nat} {ds : List PyData} (h : ∀ d ∈ ds, Sh n c d) (hm : ds.length ≤ m) : Sh (n + 1) (m * (c + 2) + 3) (.tuple ds) := by
  obtain ⟨b1, e1, f1⟩ := shs h
  refine ⟨b1, Nat.succ_le_succ e1, ?_⟩
  have h1 := tupleText_le (PyData.shownAll ds)
  have h2 : ds.length * (c + 2) ≤ m * (c + 2) := Nat.mul_le_mul_right _ hm
  show (tupleText (PyData.shownAll ds)).length ≤ _
  omega
theorem Sh.list {n c m : Nat} {ds : List PyData} (h : ∀ d ∈ ds, Sh n c d) (hm : ds.length ≤ m) : Sh (n + 1) (m * (c + 2) + 3) (.list ds) := by
  obtain ⟨b1, e1, f1⟩ := shs h
  refine ⟨b1, Nat.succ_le_succ e1, ?_⟩
  have h1 := listText_le (PyData.shownAll ds)
  have h2 : ds.length * (c + 2) ≤ m * (c + 2) := Nat.mul_le_mul_right _ hm
  show (listText (PyData.shownAll ds)).length ≤ _
  omega
theorem Sh.row {r : List Int} (h : ∀ n ∈ r, 0 ≤ n ∧ n < 2 ^ 250) (hl : r.length ≤ 40) : Sh 1 (40 * 303 + 3) (rowDt r) := by
  refine Sh.tup (n := 0) (c := 301) (fun d hd => ?_) (by rw [List.length_map]; exact hl)
  obtain ⟨n, hn, rfl⟩ := List.mem_map.mp hd
  obtain ⟨h1, h2⟩ := h n hn
  refine Sh.int (Nat.lt_of_lt_of_le ?_ (show 2 ^ 250 ≤ 2 ^ 300 by decide))
  have : ((n.natAbs : Nat) : Int) < ((2 ^ 250 : Nat) : Int) := by
    rw [Int.natAbs_of_nonneg h1]
    exact h2
  exact Int.ofNat_lt.mp this
theorem brk_word {r o : List Int} {x : Str} (hx : x ∈ brkT r o) : x = "places" ∨ x = "sum" ∨ x = "nothing" ∨ x = "measure" ∨ x = "twos" ∨ x = "odd ones" ∨ x = "doubled" := by
  unfold brkT at hx
  split at hx
  · cases hx
  · split at hx
    · exact .inl (List.mem_singleton.mp hx)
    · unfold MG.clausesOf at hx
      obtain ⟨y, hy, rfl⟩ := List.mem_map.mp hx
      have hy' := (List.mem_filter.mp hy).1
      unfold asked at hy'
      simp only [List.mem_cons, List.not_mem_nil, or_false] at hy'
      rcases hy' with h | h | h | h | h | h <;> rw [h] <;> simp
theorem brk_len (r o : List Int) : (brkT r o).length ≤ 6 := by
  unfold brkT
  split
  · exact Nat.zero_le _
  · split
    · show 1 ≤ 6; decide
    · unfold clausesOf
      rw [List.length_map]
      exact Nat.le_trans (List.length_filter_le _ _) (show (asked r o).length ≤ 6 from Nat.le_refl _)
theorem Sh.brk (r o : List Int) : Sh 1 (6 * 22 + 3) (.tuple ((brkT r o).map PyData.str)) := by
  refine Sh.tup (n := 0) (c := 20) (fun d hd => ?_) (by rw [List.length_map]; exact brk_len r o)
  obtain ⟨x, hx, rfl⟩ := List.mem_map.mp hd
  refine Sh.str x ?_
  rcases brk_word hx with h | h | h | h | h | h | h <;> rw [h] <;> decide +kernel
theorem ddIntsG {H : Hp} : ∀ L : List Int, DdAll H (L.map V.int) (L.map PyData.int)
  | [] => .nil
  | i :: L => .cons (.int i) (ddIntsG L)
theorem ddStrsG {H : Hp} : ∀ L : List Str, DdAll H (L.map V.str) (L.map PyData.str)
  | [] => .nil
  | i :: L => .cons (.str i) (ddStrsG L)
end MG

namespace K15
open PySem PySem.Spec PyProof.Rows L2 MG
def topS (i : Nat) : Stmt := PySem.Challenge.pw_matchgift_k15_clauses_broken.main.body.getD i (.Pass ⟨0, 0, 0, 0⟩)
abbrev sBox : Stmt := topS 24
abbrev sTake : Stmt := topS 25
abbrev sOf : Stmt := topS 26
theorem same_upd {H : Hp} {p : Addr} {o : HO} (h : H p = none) : Same H (upd H p o) := fun b x e => by
  rw [upd_ne (ne_of_none e h)]
  exact e
theorem scBox : FnScope ["_law_script", "_law_k", "_law_cell", "_law_own"] ["_law_script", "_law_k"] (defScope sBox) := ⟨rfl, rfl, rfl, by decide +kernel, rfl, by decide +kernel, by decide +kernel⟩
theorem scTake : FnScope ["_law_box_here", "_law_many", "_law_digit", "_law_mixed"] ["_law_box_here", "_law_many"] (defScope sTake) := ⟨rfl, rfl, rfl, by decide +kernel, rfl, by decide +kernel, by decide +kernel⟩
theorem scOf : FnScope ["_law_box_here", "_law_some"] ["_law_box_here", "_law_some"] (defScope sOf) := ⟨rfl, rfl, rfl, by decide +kernel, rfl, by decide +kernel, by decide +kernel⟩

def Box (H : Hp) (b : Addr) (n : Nat) : Prop := ∃ o m c : Int, H b = some (.lst [.int o, .int m, .int c]) ∧ 0 ≤ o ∧ o < 10 ^ 240 ∧ 0 ≤ m ∧ m < 2305843009213693921 ∧ 0 ≤ c ∧ c ≤ n
theorem Box.le {H : Hp} {b : Addr} {n n' : Nat} (h : Box H b n) (hn : n ≤ n') : Box H b n' := by
  obtain ⟨o, m, c, e, h1, h2, h3, h4, h5, h6⟩ := h
  exact ⟨o, m, c, e, h1, h2, h3, h4, h5, by omega⟩

theorem bit (b : Bool) : (-(2 ^ 64) : Int) < (if b = true then 1 else 0) ∧ (if b = true then (1 : Int) else 0) < 2 ^ 64 := by
  cases b <;> decide
theorem modb (x : Int) : (-(2 ^ 64) : Int) < x % 2305843009213693921 ∧ x % 2305843009213693921 < 2 ^ 64 := by
  have h1 := Int.emod_nonneg x (show (2305843009213693921 : Int) ≠ 0 by decide)
  have h2 := Int.emod_lt_of_pos x (show (0 : Int) < 2305843009213693921 by decide)
  omega
theorem own0 (x : Int) (b : Bool) : 0 ≤ x % 10 ^ 240 * (if b = true then 1 else 0) := by
  have := Int.emod_nonneg x (show (10 : Int) ^ 240 ≠ 0 by decide)
  cases b with
  | false => rw [if_neg Bool.false_ne_true]; omega
  | true => rw [if_pos rfl]; omega
theorem own1 (x : Int) (b : Bool) : x % 10 ^ 240 * (if b = true then 1 else 0) < 10 ^ 240 := by
  have := Int.emod_lt_of_pos x (show (0 : Int) < 10 ^ 240 by decide)
  cases b with
  | false => rw [if_neg Bool.false_ne_true, Int.mul_zero]; decide
  | true => rw [if_pos rfl, Int.mul_one]; exact this
section
variable {P : Program} {w : World} {K : PySem.W.Frag} {mg : Str → Option Value} {base : Heap}
def spBox (K : PySem.W.Frag) : Sp := fun vs H Q _ => ∃ (a : Addr) (ns : List Int) (k : Int), vs = [.ref a, .int k] ∧ SqL K H a (ns.map V.int) ∧ 0 ≤ k ∧ k ≤ 63 ∧
  ∀ p H', H p = none → Same H H' → Box H' p 0 → (∀ a, a ≠ p → H' a = H a) → Q (.ref p) H'
theorem ok_box {f : Addr} {fd : FuncData} {k : Nat} (F : Fun K "_law_box" "_law_box" sBox f fd) (ml : mg "len" = none) (mab : mg "abs" = none) (mI : mg "int" = none) :
    FnOk P w K mg base CX0 (k + 1) f fd ["_law_script", "_law_k"] (spBox K) := by
  refine F.ok scBox (fun vs H Q E h => ?_) (fun cdv A outer s H vs Q E hr h => ?_)
  · obtain ⟨a, ns, k, rfl, _⟩ := h
    rfl
  · obtain ⟨a, ns, k, rfl, hS, k0, k1, q⟩ := h
    refine ⟨_, pss_cons (ps_set (i := 2) scBox.nd rfl (.inl rfl) (pe_ifExp
          (pt_cmpR op_lt (pv 1) (pe_callB call_len_seq (by rfl) ml PySem.boot_len (pa_cons (pv 0) pa_nil)) (nomark _))
          (pe_ix ix_list (pv 0) (pv 1) (fun _ _ => rfl)) pe_int))
      (pss_cons (ps_set (i := 3) scBox.nd rfl (.inl rfl) (pe_op op_mul
          (pe_op op_mod (pe_callB call_abs (by rfl) mab (by decide +kernel) (pa_cons (pv 2) pa_nil))
            (pe_op op_mulW (pe_op op_mulW (pe_op op_mulW (pe_op op_pow pe_int pe_int) (pe_op op_pow pe_int pe_int)) (pe_op op_pow pe_int pe_int)) (pe_op op_pow pe_int pe_int)))
          (pe_callTy call_int1 (by rfl) mI (by decide +kernel) (pa_cons (pe_cmpR op_ge (pe_callB call_abs (by rfl) mab (by decide +kernel) (pa_cons (pv 2) pa_nil)) (pe_op op_pow pe_int pe_int) (nomark _)) pa_nil))))
      (pss_one (ps_ret (pe_lst (pa_cons (pv 3) (pa_cons
          (pe_op op_mod (pe_op op_mul (pe_op op_add (pe_op op_add (pe_op op_mod (pv 2) pe_int) (pe_op op_mul (pe_op op_mul pe_int (pv 1)) (pv 1))) pe_int) pe_int) pe_int)
          (pa_cons pe_int pa_nil))))))), ?_⟩
    have fin : ∀ o : Int, 0 ≤ o → o < 10 ^ 240 → ∀ m : Int, 0 ≤ m → m < 2305843009213693921 → ∀ p, H p = none → Q (.ref p) (upd H p (.lst [.int o, .int m, .int 0])) := by
      intro o o0 o1 m m0 m1 p hp
      refine q p _ hp (same_upd hp) ⟨o, m, 0, upd_same, o0, o1, m0, m1, by omega, by omega⟩ ?_
      intro a ha
      exact upd_ne ha
    have kk : (-(2 ^ 64) : Int) < k ∧ k < 2 ^ 64 := ⟨by omega, by omega⟩
    have w1 : CMulW ((10 : Int) ^ (60 : Int).toNat) (10 ^ (60 : Int).toNat) := by unfold CMulW; decide +kernel
    have w2 : CMulW ((10 : Int) ^ (60 : Int).toNat * 10 ^ (60 : Int).toNat) (10 ^ (60 : Int).toNat) := by unfold CMulW; decide +kernel
    have w3 : CMulW ((10 : Int) ^ (60 : Int).toNat * 10 ^ (60 : Int).toNat * 10 ^ (60 : Int).toNat) (10 ^ (60 : Int).toNat) := by unfold CMulW; decide +kernel
    have cp : CPow 10 60 := ⟨by decide, by decide, by decide⟩
    have cq : CPow 10 18 := ⟨by decide, by decide, by decide⟩
    have pos : (0 : Int) < 10 ^ (60 : Int).toNat * 10 ^ (60 : Int).toNat * 10 ^ (60 : Int).toNat * 10 ^ (60 : Int).toNat := by decide +kernel
    have emod : (10 : Int) ^ (60 : Int).toNat * 10 ^ (60 : Int).toNat * 10 ^ (60 : Int).toNat * 10 ^ (60 : Int).toNat = 10 ^ 240 := by decide +kernel
    refine ⟨_, rfl, .ref a, rfl, a, _, rfl, .inl hS, _, _, rfl, rfl, _, rfl, ite2 (fun hk => ?_) (fun hk => ?_)⟩
    · have hk' := of_decide_eq_true hk
      rw [List.length_map] at hk'
      obtain ⟨j, rfl⟩ : ∃ j : Nat, k = (j : Int) := ⟨k.toNat, by omega⟩
      have hj : j < ns.length := by omega
      refine ⟨.ref a, rfl, _, rfl, a, _, (j : Int), .int ns[j], rfl, rfl, hS, atI_nat (by rw [List.getElem?_map, List.getElem?_eq_getElem hj]; rfl), ?_⟩
      generalize ns[j] = cell
      refine ⟨.int cell, rfl, cell, rfl, 10, 60, rfl, rfl, cp, 10, 60, rfl, rfl, cp, _, _, rfl, rfl, w1, 10, 60, rfl, rfl, cp, _, _, rfl, rfl, w2, 10, 60, rfl, rfl, cp, _, _, rfl, rfl, w3, _, _, rfl, rfl, pos, ?_⟩
      refine ⟨.int cell, rfl, cell, rfl, 10, 18, rfl, rfl, cq, _, _, rfl, rfl, .inr ⟨_, rfl, _, _, rfl, rfl, .inr (bit _), ?_⟩⟩
      refine ⟨_, rfl, _, rfl, cell, 2305843009213693951, rfl, rfl, (by show (0 : Int) < 2305843009213693951; decide), _, rfl, 7919, (j : Int), rfl, rfl, .inl ⟨by decide, by decide⟩, _, rfl, _, (j : Int), rfl, rfl, .inr kk, _, _, rfl, rfl, _, 43, rfl, rfl, _, 48271, rfl, rfl, .inr ⟨by decide, by decide⟩, _, _, rfl, rfl, (by show (0 : Int) < 2305843009213693921; decide), ?_⟩
      refine ⟨by show 3 ≤ sizeLine; decide, ?_⟩
      rw [emod]
      exact fin _ (own0 _ _) (own1 _ _) _ (Int.emod_nonneg _ (by decide)) (Int.emod_lt_of_pos _ (by decide))
    · skip
      refine ⟨.int 0, rfl, 0, rfl, 10, 60, rfl, rfl, cp, 10, 60, rfl, rfl, cp, _, _, rfl, rfl, w1, 10, 60, rfl, rfl, cp, _, _, rfl, rfl, w2, 10, 60, rfl, rfl, cp, _, _, rfl, rfl, w3, _, _, rfl, rfl, pos, ?_⟩
      refine ⟨.int 0, rfl, 0, rfl, 10, 18, rfl, rfl, cq, _, _, rfl, rfl, .inr ⟨_, rfl, _, _, rfl, rfl, .inr (bit _), ?_⟩⟩
      refine ⟨_, rfl, _, rfl, 0, 2305843009213693951, rfl, rfl, (by show (0 : Int) < 2305843009213693951; decide), _, rfl, 7919, k, rfl, rfl, .inl ⟨by decide, by decide⟩, _, rfl, _, k, rfl, rfl, .inr kk, _, _, rfl, rfl, _, 43, rfl, rfl, _, 48271, rfl, rfl, .inr ⟨by decide, by decide⟩, _, _, rfl, rfl, (by show (0 : Int) < 2305843009213693921; decide), ?_⟩
      refine ⟨by show 3 ≤ sizeLine; decide, ?_⟩
      rw [emod]
      exact fin _ (own0 _ _) (own1 _ _) _ (Int.emod_nonneg _ (by decide)) (Int.emod_lt_of_pos _ (by decide))

def spTake : Sp := fun vs H Q _ => ∃ b many n, vs = [.ref b, .int many] ∧ Box H b n ∧ n ≤ 1000000 ∧ 1 ≤ many ∧ many ≤ 10 ^ 40 ∧
  ∀ r H', 0 ≤ r → r < many → Box H' b (n + 1) → (∀ a, a ≠ b → H' a = H a) → Q (.int r) H'
theorem ok_take {f : Addr} {fd : FuncData} {k : Nat} (F : Fun K "_law_take" "_law_take" sTake f fd) :
    FnOk P w K mg base CX0 (k + 1) f fd ["_law_box_here", "_law_many"] spTake := by
  refine F.ok scTake (fun vs H Q E h => ?_) (fun cdv A outer s H vs Q E hr h => ?_)
  · obtain ⟨b, many, n, rfl, _⟩ := h
    rfl
  · obtain ⟨b, many, n, rfl, ⟨o, m, c, e, h1, h2, h3, h4, h5, h6⟩, hn, m1, m2, q⟩ := h
    refine ⟨_, pss_cons (ps_if (pt_cmpR op_gt (pe_ix ix_list (pv 0) pe_int (fun _ _ => rfl)) pe_int (nomark _))
        (pss_cons (ps_set (i := 2) scTake.nd rfl (.inl rfl) (pe_op op_mod (pe_ix ix_list (pv 0) pe_int (fun _ _ => rfl)) (pv 1)))
        (pss_cons (ps_asg (pe_op op_fdivW (pe_ix ix_list (pv 0) pe_int (fun _ _ => rfl)) (pv 1)) (pg_sub (pv 0) pe_int set_list))
        (pss_one (ps_ret (pv 2))))) pss_nil)
      (pss_cons (ps_asg (pe_op op_add (pe_ix ix_list (pv 0) pe_int (fun _ _ => rfl)) pe_int) (pg_sub (pv 0) pe_int set_list))
      (pss_cons (ps_set (i := 3) scTake.nd rfl (.inl rfl) (pe_op op_mod (pe_op op_mul
          (pe_op op_add (pe_op op_add (pe_ix ix_list (pv 0) pe_int (fun _ _ => rfl)) (pe_op op_mul (pe_op op_mul pe_int (pe_ix ix_list (pv 0) pe_int (fun _ _ => rfl))) (pe_ix ix_list (pv 0) pe_int (fun _ _ => rfl)))) pe_int) pe_int) pe_int))
      (pss_cons (ps_set (i := 3) scTake.nd rfl (.inl rfl) (pe_op op_mod (pe_op op_mul (pv 3)
          (pe_op op_add (pe_op op_mod (pv 3) pe_int) (pe_op op_mul pe_int (pe_ix ix_list (pv 0) pe_int (fun _ _ => rfl))))) pe_int))
      (pss_one (ps_ret (pe_op op_mod (pe_op op_add (pe_op op_fdiv (pv 3) pe_int) (pe_op op_fdiv (pv 3) pe_int)) (pv 1))))))), ?_⟩
    have hdiv : CDivW o many := wide_div (b := 200) (by omega) (by omega) (by decide) (by decide)
    have hmany : (fun (_ j : Int) => 0 < j) o many := show 0 < many by omega
    refine ⟨.ref b, rfl, b, _, 0, .int o, rfl, rfl, SqL.of e, atI_nat (j := 0) rfl, o, 0, rfl, rfl, _, rfl, ite2 (fun ho => ?_) (fun ho => ?_)⟩
    · refine ⟨.ref b, rfl, b, _, 0, .int o, rfl, rfl, SqL.of e, atI_nat (j := 0) rfl, _, rfl, o, many, rfl, rfl, hmany, ?_⟩
      refine ⟨.ref b, rfl, b, _, 0, .int o, rfl, rfl, SqL.of e, atI_nat (j := 0) rfl, _, rfl, o, many, rfl, rfl, hdiv, .ref b, rfl, b, _, 0, 0, rfl, rfl, e, rfl, ?_⟩
      refine ⟨_, rfl, ?_⟩
      refine q _ _ (Int.emod_nonneg _ (by omega)) (Int.emod_lt_of_pos _ (by omega)) ⟨o / many, m, c, upd_same, ?_, ?_, h3, h4, h5, by omega⟩ ?_
      · exact Int.ediv_nonneg h1 (by omega)
      · exact Int.lt_of_le_of_lt (Int.ediv_le_self _ h1) h2
      · intro a ha
        exact upd_ne ha
    · have hc1 : (-(2 ^ 64) : Int) < c + 1 ∧ c + 1 < 2 ^ 64 := ⟨by omega, by omega⟩
      refine ⟨.ref b, rfl, b, _, 2, .int c, rfl, rfl, SqL.of e, atI_nat (j := 2) rfl, c, 1, rfl, rfl, .ref b, rfl, b, _, 2, 2, rfl, rfl, e, rfl, ?_⟩
      generalize hH : upd H b (HO.lst (List.set [V.int o, V.int m, V.int c] 2 (V.int (c + 1)))) = H2
      have e2 : H2 b = some (.lst [.int o, .int m, .int (c + 1)]) := by rw [← hH]; exact upd_same
      have off : ∀ a, a ≠ b → H2 a = H a := fun a ha => by rw [← hH]; exact upd_ne ha
      refine ⟨.ref b, rfl, b, _, 1, .int m, rfl, rfl, SqL.of e2, atI_nat (j := 1) rfl, .ref b, rfl, b, _, 2, .int (c + 1), rfl, rfl, SqL.of e2, atI_nat (j := 2) rfl, 65537, c + 1, rfl, rfl, .inr hc1, .ref b, rfl, b, _, 2, .int (c + 1), rfl, rfl, SqL.of e2, atI_nat (j := 2) rfl, _, c + 1, rfl, rfl, .inr hc1, m, _, rfl, rfl, _, 11, rfl, rfl, _, 48271, rfl, rfl, .inr ⟨by decide, by decide⟩, _, _, rfl, rfl, (by show (0 : Int) < 2305843009213693921; decide), ?_⟩
      refine ⟨_, rfl, _, rfl, _, 1000003, rfl, rfl, (by show (0 : Int) < 1000003; decide), .ref b, rfl, b, _, 2, .int (c + 1), rfl, rfl, SqL.of e2, atI_nat (j := 2) rfl, 99991, c + 1, rfl, rfl, .inr hc1, _, _, rfl, rfl, _, _, rfl, rfl, .inl (modb _), _, _, rfl, rfl, (by show (0 : Int) < 2305843009213693907; decide), ?_⟩
      refine ⟨_, rfl, _, 97, rfl, rfl, ⟨by decide, by decide⟩, _, rfl, _, 1000033, rfl, rfl, ⟨by decide, by decide⟩, _, _, rfl, rfl, .int many, rfl, _, many, rfl, rfl, (by show (0 : Int) < many; omega), ?_⟩
      refine q _ _ (Int.emod_nonneg _ (by omega)) (Int.emod_lt_of_pos _ (by omega)) ⟨o, m, c + 1, e2, h1, h2, h3, h4, by omega, by omega⟩ off

def spOf : Sp := fun vs H Q _ => ∃ b l n xs, vs = [.ref b, .ref l] ∧ Box H b n ∧ n ≤ 1000000 ∧ H l = some (.lst xs) ∧ b ≠ l ∧ 1 ≤ xs.length ∧ xs.length ≤ 1000 ∧
  ∀ x H', x ∈ xs → Box H' b (n + 1) → (∀ a, a ≠ b → H' a = H a) → Q x H'
theorem ok_of {f fT : Addr} {fd fdT : FuncData} {k : Nat} (F : Fun K "_law_of" "_law_of" sOf f fd) (FT : Fun K "_law_take" "_law_take" sTake fT fdT) (bT : Binds K fdT ["_law_box_here", "_law_many"] [])
    (gT : mg "_law_take" = some (.ref fT)) (ml : mg "len" = none) :
    FnOk P w K mg base CX0 (k + 2) f fd ["_law_box_here", "_law_some"] spOf := by
  have GT : FnOk P w K mg base CX0 (k + 1) fT fdT ["_law_box_here", "_law_many"] spTake := ok_take FT
  refine F.ok scOf (fun vs H Q E h => ?_) (fun cdv A outer s H vs Q E hr h => ?_)
  · obtain ⟨b, l, n, xs, rfl, _⟩ := h
    rfl
  · obtain ⟨b, l, n, xs, rfl, hB, hn, hx, ne, l1, l2, q⟩ := h
    refine ⟨_, pss_one (ps_ret (pe_ix ix_list (pv 1) (pe_call GT hr (by rfl) gT FT.kp bT .nil pass0 (pa_cons (pv 0) (pa_cons
      (pe_callB call_len_seq (by rfl) ml PySem.boot_len (pa_cons (pv 1) pa_nil)) pa_nil))) (fun _ _ => rfl))), ?_⟩
    refine ⟨.ref l, rfl, .ref b, rfl, .ref l, rfl, l, xs, rfl, .inl (SqL.of hx), b, (xs.length : Int), n, rfl, hB, hn, by omega, by omega, ?_⟩
    intro r H' r0 r1 hB' hk
    have hxl : H' l = some (.lst xs) := by rw [hk l (Ne.symm ne)]; exact hx
    obtain ⟨j, rfl⟩ : ∃ j : Nat, r = (j : Int) := ⟨r.toNat, by omega⟩
    have hj : j < xs.length := by omega
    exact ⟨l, xs, (j : Int), xs[j], rfl, rfl, SqL.of hxl, atI_nat (List.getElem?_eq_getElem hj), q _ H' (List.getElem_mem hj) hB' hk⟩
end
/-! ### what stays while the box is drawn from -/
def SX (b : Addr) (H H' : Hp) : Prop := ∀ a o, a ≠ b → H a = some o → H' a = some o
theorem SX.refl (b : Addr) (H : Hp) : SX b H H := fun _ _ _ h => h
theorem SX.trans {b : Addr} {H H1 H2 : Hp} (x : SX b H H1) (y : SX b H1 H2) : SX b H H2 := fun a o n h => y a o n (x a o n h)
theorem SX.of_same {b : Addr} {H H' : Hp} (h : Same H H') : SX b H H' := fun a o _ e => h a o e
theorem SX.of_eq {b : Addr} {H H' : Hp} (h : ∀ a, a ≠ b → H' a = H a) : SX b H H' := fun a o n e => by rw [h a n]; exact e
theorem SX.new {b : Addr} {H H' : Hp} {p : Addr} {o : HO} (x : SX b H H') (hp : H' p = none) : SX b H (upd H' p o) := x.trans (.of_same (same_upd hp))
theorem SX.free {b p : Addr} {H H' : Hp} {n : Nat} (x : SX b H H') (hB : Box H' b n) (h : H' p = none) : H p = none := by
  cases e : H p with
  | none => rfl
  | some o =>
    by_cases hb : p = b
    · subst hb
      obtain ⟨_, _, _, z, _⟩ := hB
      rw [h] at z
      cases z
    · rw [x p o hb e] at h
      cases h
theorem Box.at {H H' : Hp} {b : Addr} {n : Nat} (h : Box H b n) (e : H' b = H b) : Box H' b n := by
  obtain ⟨o, m, c, z, r⟩ := h
  exact ⟨o, m, c, by rw [e]; exact z, r⟩
theorem Box.new {H : Hp} {b p : Addr} {n : Nat} {o : HO} (h : Box H b n) (hp : H p = none) : Box (upd H p o) b n := by
  obtain ⟨_, _, _, z, _⟩ := id h
  exact h.at (upd_ne (ne_of_none z hp))
theorem Box.some {H : Hp} {b : Addr} {n : Nat} (h : Box H b n) : H b ≠ none := by
  obtain ⟨_, _, _, z, _⟩ := h
  rw [z]
  exact fun q => nomatch q

end K15

namespace K15
open PySem PySem.Spec PyProof.Rows L2 MG
abbrev sTwosIn : Stmt := topS 1
abbrev sOddPart : Stmt := topS 2
abbrev sCommon : Stmt := topS 3
abbrev sUnit : Stmt := topS 4
abbrev sMeasure : Stmt := topS 5
abbrev sTwos : Stmt := topS 6
abbrev sOddOnes : Stmt := topS 7
theorem scTwosIn : FnScope ["n"] ["n"] (defScope sTwosIn) := ⟨rfl, rfl, rfl, by decide +kernel, rfl, by decide +kernel, by decide +kernel⟩
theorem scOddPart : FnScope ["n"] ["n"] (defScope sOddPart) := ⟨rfl, rfl, rfl, by decide +kernel, rfl, by decide +kernel, by decide +kernel⟩
theorem scCommon : FnScope ["a", "b"] ["a", "b"] (defScope sCommon) := ⟨rfl, rfl, rfl, by decide +kernel, rfl, by decide +kernel, by decide +kernel⟩
theorem scUnit : FnScope ["row", "greatest", "amount"] ["row"] (defScope sUnit) := ⟨rfl, rfl, rfl, by decide +kernel, rfl, by decide +kernel, by decide +kernel⟩
theorem scMeasure : FnScope ["row"] ["row"] (defScope sMeasure) := ⟨rfl, rfl, rfl, by decide +kernel, rfl, by decide +kernel, by decide +kernel⟩
theorem scTwos : FnScope ["row"] ["row"] (defScope sTwos) := ⟨rfl, rfl, rfl, by decide +kernel, rfl, by decide +kernel, by decide +kernel⟩
theorem scOddOnes : FnScope ["row", "fewest_twos", "amount"] ["row"] (defScope sOddOnes) := ⟨rfl, rfl, rfl, by decide +kernel, rfl, by decide +kernel, by decide +kernel⟩

theorem gl_take_succ (ns : List Int) (i : Nat) (h : i < ns.length) : gl (ns.take (i + 1)) = Nat.gcd (gl (ns.take i)) ns[i].toNat := by
  rw [List.take_add_one, List.getElem?_eq_getElem h, gl_append]
  show Nat.gcd _ (Nat.gcd _ 0) = _
  rw [Nat.gcd_zero_right]

section
variable {P : Program} {w : World} {K : PySem.W.Frag} {mg : Str → Option Value} {base : Heap}
def spTwosIn : Sp := fun vs H Q _ => ∃ n : Int, vs = [.int n] ∧ 0 < n ∧ Q (.int (v2 n.toNat : Nat)) H
theorem ok_twosIn {f : Addr} {fd : FuncData} {k : Nat} (F : Fun K "twos_in" "twos_in" sTwosIn f fd) : FnOk P w K mg base CX0 (k + 1) f fd ["n"] spTwosIn := by
  refine F.ok scTwosIn (fun vs H Q E h => ?_) (fun cdv A outer s H vs Q E hr h => ?_)
  · obtain ⟨n, rfl, _⟩ := h
    rfl
  · obtain ⟨n, rfl, hn, q⟩ := h
    refine ⟨_, pss_one (ps_ret (pe_op op_sub (pe_bits (pe_op op_and (pv 0) (pe_un un_neg (pv 0)))) pe_int)), ?_⟩
    refine ⟨_, rfl, _, rfl, n, rfl, n, -n, rfl, rfl, _, rfl, _, 1, rfl, rfl, ?_⟩
    rw [low_bit hn, bits_pow]
    show Q (.int (((v2 n.toNat + 1 : Nat) : Int) - 1)) H
    rw [show (((v2 n.toNat + 1 : Nat) : Int) - 1) = ((v2 n.toNat : Nat) : Int) by omega]
    exact q
def spOddPart : Sp := fun vs H Q _ => ∃ n : Int, vs = [.int n] ∧ 0 < n ∧ Q (.int (n / 2 ^ v2 n.toNat)) H
theorem ok_oddPart {f fT : Addr} {fd fdT : FuncData} {k : Nat} (F : Fun K "odd_part" "odd_part" sOddPart f fd) (FT : Fun K "twos_in" "twos_in" sTwosIn fT fdT) (bT : Binds K fdT ["n"] []) (gT : mg "twos_in" = some (.ref fT)) :
    FnOk P w K mg base CX0 (k + 2) f fd ["n"] spOddPart := by
  have GT : FnOk P w K mg base CX0 (k + 1) fT fdT ["n"] spTwosIn := ok_twosIn FT
  refine F.ok scOddPart (fun vs H Q E h => ?_) (fun cdv A outer s H vs Q E hr h => ?_)
  · obtain ⟨n, rfl, _⟩ := h
    rfl
  · obtain ⟨n, rfl, hn, q⟩ := h
    refine ⟨_, pss_one (ps_ret (pe_op op_shr (pv 0) (pe_call GT hr (by rfl) gT FT.kp bT .nil pass0 (pa_cons (pv 0) pa_nil)))), ?_⟩
    refine ⟨_, rfl, _, rfl, n, rfl, hn, n, _, rfl, rfl, Int.natCast_nonneg _, ?_⟩
    exact q
def spCommon : Sp := fun vs H Q _ => ∃ a b : Nat, vs = [.int a, .int b] ∧ Q (.int (Nat.gcd a b : Nat)) H
theorem ok_common {f : Addr} {fd : FuncData} {k : Nat} (F : Fun K "common_part" "common_part" sCommon f fd) : FnOk P w K mg base CX0 (k + 1) f fd ["a", "b"] spCommon := by
  refine F.ok scCommon (fun vs H Q E h => ?_) (fun cdv A outer s H vs Q E hr h => ?_)
  · obtain ⟨a, b, rfl, _⟩ := h
    rfl
  · obtain ⟨a, b, rfl, q⟩ := h
    refine ⟨_, pss_cons (ps_while PassesOwn.never (pt_cmpR op_gt (pv 1) pe_int (nomark _)) (pss_one (ps_par (i := 0) (j := 1) rfl scCommon.nd rfl rfl (by decide) rfl rfl (pa_cons (pv 1) (pa_cons (pe_op op_mod (pv 0) (pv 1)) pa_nil)) (by rfl))))
      (pss_one (ps_ret (pv 0))), ?_⟩
    refine while_by (fun σ H' => ∃ x y : Nat, σ = [some (.int x), some (.int y)] ∧ H' = H ∧ Nat.gcd x y = Nat.gcd a b) (fun σ _ => match σ with | [_, some (.int y)] => y.toNat | _ => 0) ⟨a, b, rfl, rfl, rfl⟩ ?_ ?_
    · rintro σ H' ⟨x, y, rfl, rfl, hg⟩
      refine ⟨_, rfl, (y : Int), 0, rfl, rfl, _, rfl, ite2 (fun hy => ?_) (fun hy => ?_)⟩
      · have hy' : 0 < y := by have := of_decide_eq_true hy; omega
        refine ⟨_, rfl, _, rfl, _, rfl, (x : Int), (y : Int), rfl, rfl, (by show (0 : Int) < y; omega), _, _, rfl, ⟨y, x % y, ?_, rfl, ?_⟩, ?_⟩
        · rw [Int.natCast_emod]; rfl
        · rw [← hg, Nat.gcd_comm x y, Nat.gcd_rec y x, Nat.gcd_comm]
        · show ((x : Int) % (y : Int)).toNat < (y : Int).toNat
          rw [← Int.natCast_emod]
          have := Nat.mod_lt x hy'
          omega
      · have hy' : y = 0 := by
          have : ¬ (y : Int) > 0 := fun z => hy (decide_eq_true z)
          omega
        subst hy'
        rw [Nat.gcd_zero_right] at hg
        refine ⟨_, rfl, ?_⟩
        rw [hg]
        exact q
    · rintro σ H' Q1 Q2 hq ⟨x, e1, i, j, e2, e3, z, e4, h⟩
      exact ⟨x, e1, i, j, e2, e3, z, e4, hq _ _ h⟩
def Row (H : Hp) (a : Addr) (ns : List Int) : Prop := H a = some (.tup (ns.map V.int)) ∧ (∀ n ∈ ns, 0 ≤ n ∧ n < 2 ^ 250) ∧ ns.length ≤ 40 ∧ ∃ n ∈ ns, 0 < n
theorem Row.same {H H' : Hp} {a : Addr} {ns : List Int} (r : Row H a ns) (s : Same H H') : Row H' a ns := ⟨s _ _ r.1, r.2⟩
theorem Row.pos {H : Hp} {a : Addr} {ns : List Int} (r : Row H a ns) : 0 < gl ns := by
  obtain ⟨_, _, _, n, hn, h0⟩ := r
  exact gl_pos hn h0
theorem Row.lt {H : Hp} {a : Addr} {ns : List Int} (r : Row H a ns) : (gl ns : Int) < 2 ^ 250 := by
  obtain ⟨_, hb, _, n, hn, h0⟩ := r
  exact Int.lt_of_le_of_lt (gl_le hn h0) (hb n hn).2
def spUnit : Sp := fun vs H Q _ => ∃ a ns, vs = [.ref a] ∧ Row H a ns ∧ Q (.int (gl ns : Nat)) H
theorem ok_unit {f fC : Addr} {fd fdC : FuncData} {k : Nat} (F : Fun K "unit" "unit" sUnit f fd) (FC : Fun K "common_part" "common_part" sCommon fC fdC) (bC : Binds K fdC ["a", "b"] []) (gC : mg "common_part" = some (.ref fC)) :
    FnOk P w K mg base CX0 (k + 2) f fd ["row"] spUnit := by
  have GC : FnOk P w K mg base CX0 (k + 1) fC fdC ["a", "b"] spCommon := ok_common FC
  refine F.ok scUnit (fun vs H Q E h => ?_) (fun cdv A outer s H vs Q E hr h => ?_)
  · obtain ⟨a, ns, rfl, _⟩ := h
    rfl
  · obtain ⟨a, ns, rfl, r, q⟩ := h
    refine ⟨_, pss_cons (ps_set (i := 1) scUnit.nd rfl (.inl rfl) pe_int) (pss_cons (ps_for PassesOwn.never rfl (pi_tup (pv 0)) (pg_name (i := 2) scUnit.nd rfl (.inl rfl))
        (pss_one (ps_set (i := 1) scUnit.nd rfl (.inl rfl) (pe_call GC hr (by rfl) gC FC.kp bC .nil pass0 (pa_cons (pv 1) (pa_cons (pv 2) pa_nil))))))
      (pss_one (ps_ret (pv 1)))), ?_⟩
    refine ⟨.ref a, rfl, a, rfl, ⟨_, SqT.of r.1⟩, ?_⟩
    refine for_tup (K := K) (a := a) (xs := ns.map V.int) (fun i σ H' => ∃ y2, σ = [some (.ref a), some (.int (gl (ns.take i) : Nat)), y2] ∧ H' = H) ⟨none, rfl, rfl⟩ ?_ ?_ ?_
    · rintro i σ H' _ ⟨y2, rfl, rfl⟩
      exact SqT.of r.1
    · rintro i x σ H' hx ⟨y2, rfl, rfl⟩
      rw [List.getElem?_map] at hx
      obtain ⟨n, hn, rfl⟩ := Option.map_eq_some_iff.mp hx
      obtain ⟨hi, hn'⟩ := List.getElem?_eq_some_iff.mp hn
      have h0 : 0 ≤ n := (r.2.1 n (List.mem_of_getElem? hn)).1
      refine ⟨_, rfl, _, rfl, gl (ns.take i), n.toNat, by rw [Int.toNat_of_nonneg h0]; rfl, some (.int n), ?_, rfl⟩
      rw [gl_take_succ ns i hi, hn']
      rfl
    · rintro σ H' ⟨y2, rfl, rfl⟩
      rw [List.length_map, List.take_length]
      exact ⟨_, rfl, q⟩
def spMeasure : Sp := fun vs H Q _ => ∃ a ns, vs = [.ref a] ∧ Row H a ns ∧ Q (.int ((gl ns : Nat) / 2 ^ v2 (gl ns))) H
def spTwos : Sp := fun vs H Q _ => ∃ a ns, vs = [.ref a] ∧ Row H a ns ∧ Q (.int (v2 (gl ns) : Nat)) H
theorem ok_measure {f fO fU : Addr} {fd fdO fdU : FuncData} {k : Nat} (F : Fun K "measure" "measure" sMeasure f fd) (FO : Fun K "odd_part" "odd_part" sOddPart fO fdO) (bO : Binds K fdO ["n"] []) (gO : mg "odd_part" = some (.ref fO)) (GO : FnOk P w K mg base CX0 (k + 2) fO fdO ["n"] spOddPart)
    (FU : Fun K "unit" "unit" sUnit fU fdU) (bU : Binds K fdU ["row"] []) (gU : mg "unit" = some (.ref fU)) (GU : FnOk P w K mg base CX0 (k + 2) fU fdU ["row"] spUnit) : FnOk P w K mg base CX0 (k + 3) f fd ["row"] spMeasure := by
  refine F.ok scMeasure (fun vs H Q E h => ?_) (fun cdv A outer s H vs Q E hr h => ?_)
  · obtain ⟨a, ns, rfl, _⟩ := h
    rfl
  · obtain ⟨a, ns, rfl, r, q⟩ := h
    refine ⟨_, pss_one (ps_ret (pe_call GO hr (by rfl) gO FO.kp bO .nil pass0 (pa_cons (pe_call GU hr (by rfl) gU FU.kp bU .nil pass0 (pa_cons (pv 0) pa_nil)) pa_nil))), ?_⟩
    have := r.pos
    refine ⟨_, rfl, a, ns, rfl, r, _, rfl, by omega, ?_⟩
    rw [Int.toNat_natCast]
    exact q
theorem ok_twos {f fT fU : Addr} {fd fdT fdU : FuncData} {k : Nat} (F : Fun K "twos" "twos" sTwos f fd) (FT : Fun K "twos_in" "twos_in" sTwosIn fT fdT) (bT : Binds K fdT ["n"] []) (gT : mg "twos_in" = some (.ref fT)) (GT : FnOk P w K mg base CX0 (k + 1) fT fdT ["n"] spTwosIn)
    (FU : Fun K "unit" "unit" sUnit fU fdU) (bU : Binds K fdU ["row"] []) (gU : mg "unit" = some (.ref fU)) (GU : FnOk P w K mg base CX0 (k + 2) fU fdU ["row"] spUnit) : FnOk P w K mg base CX0 (k + 3) f fd ["row"] spTwos := by
  refine F.ok scTwos (fun vs H Q E h => ?_) (fun cdv A outer s H vs Q E hr h => ?_)
  · obtain ⟨a, ns, rfl, _⟩ := h
    rfl
  · obtain ⟨a, ns, rfl, r, q⟩ := h
    refine ⟨_, pss_one (ps_ret (pe_call GT (hr.mono (by omega)) (by rfl) gT FT.kp bT .nil pass0 (pa_cons (pe_call GU hr (by rfl) gU FU.kp bU .nil pass0 (pa_cons (pv 0) pa_nil)) pa_nil))), ?_⟩
    have := r.pos
    refine ⟨_, rfl, a, ns, rfl, r, _, rfl, by omega, ?_⟩
    rw [Int.toNat_natCast]
    exact q
def spOddOnes : Sp := fun vs H Q _ => ∃ a ns, vs = [.ref a] ∧ Row H a ns ∧ ∀ H', Same H H' → Q (.int ((fewT (v2 (gl ns)) ns).length : Nat)) H'
theorem fewT_succ (t : Nat) (ns : List Int) (i : Nat) (h : i < ns.length) : fewT t (ns.take (i + 1)) = fewT t (ns.take i) ++ (if (decide (ns[i] > 0) && decide (v2 ns[i].toNat ≤ t)) = true then [ns[i]] else []) := by
  unfold fewT
  rw [List.take_add_one, List.getElem?_eq_getElem h, List.filter_append]
  congr 1
  show List.filter _ [ns[i]] = _
  rw [List.filter_cons, List.filter_nil]
theorem ok_oddOnes {f fT fS : Addr} {fd fdT fdS : FuncData} {k : Nat} (F : Fun K "odd_ones" "odd_ones" sOddOnes f fd) (FT : Fun K "twos_in" "twos_in" sTwosIn fT fdT) (bT : Binds K fdT ["n"] []) (gT : mg "twos_in" = some (.ref fT)) (GT : FnOk P w K mg base CX0 (k + 1) fT fdT ["n"] spTwosIn)
    (FS : Fun K "twos" "twos" sTwos fS fdS) (bS : Binds K fdS ["row"] []) (gS : mg "twos" = some (.ref fS)) (GS : FnOk P w K mg base CX0 (k + 3) fS fdS ["row"] spTwos) (ml : mg "len" = none) : FnOk P w K mg base CX0 (k + 4) f fd ["row"] spOddOnes := by
  refine F.ok scOddOnes (fun vs H Q E h => ?_) (fun cdv A outer s H vs Q E hr h => ?_)
  · obtain ⟨a, ns, rfl, _⟩ := h
    rfl
  · obtain ⟨a, ns, rfl, r, q⟩ := h
    have hr1 := hr.mono (show k + 1 ≤ k + 3 by omega)
    refine ⟨_, pss_cons (ps_set (i := 1) scOddOnes.nd rfl (.inr rfl) (pe_call GS hr (by rfl) gS FS.kp bS .nil pass0 (pa_cons (pv 0) pa_nil)))
      (pss_one (ps_ret (pe_callB call_len_seq (by rfl) ml PySem.boot_len (pa_cons
        (pe_lc (own := [("amount", 2)]) (g := gName 2) rfl scOddOnes.nd (pi_tup (pv 0)) (blkOk_by (N := ["row", "fewest_twos", "amount"]) (sc := defScope sOddOnes) (by decide +kernel))
          (fun _ _ _ _ _ => pg_name (i := 2) scOddOnes.nd rfl (Or.inl rfl))
          (fun _ _ _ _ _ => pts_one (PW.pt (pw_and (pt_cmpR op_gt (pv 2) pe_int (nomark _)) (pw_and1 (pt_cmpR op_le (pe_call GT hr1 (by rfl) gT FT.kp bT .nil pass0 (pa_cons (pv 2) pa_nil)) (pv 1) (nomark _))))))
          (fun _ _ _ _ _ => pv 2)) pa_nil)))), ?_⟩
    refine ⟨_, rfl, a, ns, rfl, r, ?_⟩
    refine ⟨.ref a, rfl, a, rfl, ⟨_, SqT.of r.1⟩, fun D nD => ?_⟩
    refine lc_tup (K := K) (a := a) (xs := ns.map V.int) (fun i H' => Same H H' ∧ H' D = some (.lst ((fewT (v2 (gl ns)) (ns.take i)).map V.int))) ⟨same_upd nD, upd_same⟩ ?_ ?_ ?_
    · rintro i H' _ ⟨sm, _⟩
      exact SqT.of (sm _ _ r.1)
    · rintro i x H' hx ⟨sm, hD⟩
      rw [List.getElem?_map] at hx
      obtain ⟨n, hn, rfl⟩ := Option.map_eq_some_iff.mp hx
      obtain ⟨hi, hn'⟩ := List.getElem?_eq_some_iff.mp hn
      have small : ((fewT (v2 (gl ns)) (ns.take i)).map V.int).length < sizeLine := by
        rw [List.length_map]
        refine small1000 (Nat.le_trans (List.length_filter_le _ _) ?_)
        rw [List.length_take]
        have := r.2.2.1
        omega
      refine ⟨rfl, _, rfl, n, 0, rfl, rfl, _, rfl, ite2 (fun h1 => ?_) (fun h1 => ?_)⟩
      · have h1' : 0 < n := of_decide_eq_true h1
        refine ⟨_, rfl, n, rfl, h1', _, rfl, _, _, rfl, rfl, _, rfl, ite2 (fun h2 => ?_) (fun h2 => ?_)⟩
        · have h2' : v2 n.toNat ≤ v2 (gl ns) := by have := of_decide_eq_true h2; omega
          refine ⟨_, rfl, _, hD, small, ?_, ?_⟩
          · intro c o hc
            rw [upd_ne (ne_of_none hc nD)]
            exact sm c o hc
          · rw [upd_same, fewT_succ _ _ _ hi, hn', decide_eq_true h1', decide_eq_true h2', List.map_append]
            rfl
        · have h2' : ¬ v2 n.toNat ≤ v2 (gl ns) := fun z => h2 (decide_eq_true (by omega))
          refine ⟨sm, ?_⟩
          rw [fewT_succ _ _ _ hi, hn', decide_eq_false h2', Bool.and_false, if_neg Bool.false_ne_true, List.append_nil]
          exact hD
      · have h1' : ¬ n > 0 := fun z => h1 (decide_eq_true z)
        refine iteF ⟨sm, ?_⟩
        rw [fewT_succ _ _ _ hi, hn', decide_eq_false h1', Bool.false_and, if_neg Bool.false_ne_true, List.append_nil]
        exact hD
    · rintro H' ⟨sm, hD⟩
      rw [List.length_map, List.take_length] at hD
      refine ⟨D, _, rfl, .inl (SqL.of hD), ?_⟩
      rw [List.length_map]
      exact q H' sm
end
end K15

namespace K15
open PySem PySem.Spec PyProof.Rows L2 MG
abbrev sSplit : Stmt := topS 27
abbrev sPlaces : Stmt := topS 28
theorem scSplit : FnScope ["_law_box_here", "_law_total", "_law_many", "_law_left", "_law_found", "_law_turn", "_law_more"] ["_law_box_here", "_law_total", "_law_many"] (defScope sSplit) := ⟨rfl, rfl, rfl, by decide +kernel, rfl, by decide +kernel, by decide +kernel⟩
theorem scPlaces : FnScope ["_law_box_here", "_law_amounts", "_law_nothing", "_law_left", "_law_found"] ["_law_box_here", "_law_amounts", "_law_nothing"] (defScope sPlaces) := ⟨rfl, rfl, rfl, by decide +kernel, rfl, by decide +kernel, by decide +kernel⟩
theorem Box.get {H : Hp} {b : Addr} {n : Nat} (h : Box H b n) : ∃ o, H b = Option.some o := by
  obtain ⟨_, _, _, z, _⟩ := h
  exact ⟨_, z⟩
/-- a change of what is new -/
theorem SX.set {b p : Addr} {H H' : Hp} {o : HO} (x : SX b H H') (hp : H p = none) : SX b H (upd H' p o) := fun a u na e => by
  rw [upd_ne (ne_of_none e hp)]
  exact x a u na e
theorem Box.set {H : Hp} {b p : Addr} {n : Nat} {o : HO} (h : Box H b n) (hp : b ≠ p) : Box (upd H p o) b n := h.at (upd_ne hp)
theorem erase_perm {α : Type} : ∀ (l : List α) (j : Nat) (h : j < l.length), (l[j] :: l.eraseIdx j).Perm l
  | x :: r, 0, _ => List.Perm.refl _
  | x :: r, j + 1, h => by
    have h' : j < r.length := by rw [List.length_cons] at h; omega
    show (r[j] :: x :: r.eraseIdx j).Perm (x :: r)
    exact (List.Perm.swap x r[j] _).trans ((erase_perm r j h').cons x)
theorem map_erase {α β : Type} (f : α → β) : ∀ (l : List α) (j : Nat), (l.map f).eraseIdx j = (l.eraseIdx j).map f
  | [], _ => rfl
  | x :: r, 0 => rfl
  | x :: r, j + 1 => by
    show f x :: (r.map f).eraseIdx j = f x :: (r.eraseIdx j).map f
    rw [map_erase f r j]
theorem dpInts {K : PySem.W.Frag} {H : Hp} : ∀ L : List Int, DpAll K H (L.map V.int) (L.map PyData.int)
  | [] => .nil
  | i :: L => .cons (.int i) (dpInts L)
theorem lay_ints : ∀ L : List Int, PyData.canLayAll0 (L.map PyData.int) = true
  | [] => rfl
  | i :: L => by
    rw [List.map_cons, PyData.canLayAll0, lay_ints L]
    rfl
theorem depth_ints : ∀ L : List Int, PyData.depthAll (L.map PyData.int) = 0
  | [] => rfl
  | i :: L => by
    rw [List.map_cons, PyData.depthAll, depth_ints L]
    rfl
theorem shaped_ints (L : List Int) : SeqAt.shaped (.list (L.map PyData.int)) = true := by
  unfold SeqAt.shaped
  rw [PyData.canLay0, lay_ints, PyData.depth, depth_ints]
  rfl
section
variable {P : Program} {w : World} {K : PySem.W.Frag} {mg : Str → Option Value} {base : Heap}
def spSplit : Sp := fun vs H Q _ => ∃ (b : Addr) (total many : Int) (n : Nat), vs = [.ref b, .int total, .int many] ∧ Box H b n ∧ n ≤ 900000 ∧ 1 ≤ many ∧ many ≤ 20 ∧ many ≤ total ∧ total ≤ 10 ^ 39 ∧
  ∀ p H' (ns : List Int), H p = none → (ns.length : Int) = many → (∀ x ∈ ns, 1 ≤ x ∧ x ≤ total) → Box H' b (n + 20) → SX b H H' → H' p = some (.lst (ns.map V.int)) → Q (.ref p) H'
theorem ok_split {f fT : Addr} {fd fdT : FuncData} {k : Nat} (F : Fun K "_law_split" "_law_split" sSplit f fd)
    (FT : Fun K "_law_take" "_law_take" sTake fT fdT) (bT : Binds K fdT ["_law_box_here", "_law_many"] []) (gT : mg "_law_take" = some (.ref fT)) (mR : mg "range" = none) :
    FnOk P w K mg base CX0 (k + 2) f fd ["_law_box_here", "_law_total", "_law_many"] spSplit := by
  have GT : FnOk P w K mg base CX0 (k + 1) fT fdT ["_law_box_here", "_law_many"] spTake := ok_take FT
  refine F.ok scSplit (fun vs H Q E h => ?_) (fun cdv A outer s H vs Q E hr h => ?_)
  · obtain ⟨b, total, many, n, rfl, _⟩ := h
    rfl
  · obtain ⟨b, total, many, n, rfl, hB, hn, m1, m2, m3, m4, q⟩ := h
    refine ⟨_, pss_cons (ps_par (i := 3) (j := 4) rfl scSplit.nd rfl rfl (by decide) rfl rfl (pa_cons (pe_op op_sub (pv 1) (pv 2)) (pa_cons (pe_lst pa_nil) pa_nil)) (by rfl))
      (pss_cons (ps_for PassesOwn.never rfl (pi_range1 rfl mR (pa_cons (pe_op op_sub (pv 2) pe_int) pa_nil)) (pg_name (i := 5) scSplit.nd rfl (.inl rfl))
        (pss_cons (ps_set (i := 6) scSplit.nd rfl (.inl rfl) (pe_call GT hr (by rfl) gT FT.kp bT .nil pass0 (pa_cons (pv 0) (pa_cons (pe_op op_add (pv 3) pe_int) pa_nil))))
        (pss_cons (ps_set (i := 3) scSplit.nd rfl (.inl rfl) (pe_op op_sub (pv 3) (pv 6)))
        (pss_one (ps_expr (pe_bm PySem.F.plainAttrs_list PySem.F.slot_list_append PySem.F.type_list_append mt_append (pv 4) (pa_cons (pe_op op_add pe_int (pv 6)) pa_nil)))))))
      (pss_one (ps_ret (pe_op op_cat (pv 4) (pe_lst (pa_cons (pe_op op_add pe_int (pv 3)) pa_nil)))))), ?_⟩
    refine ⟨_, rfl, _, rfl, total, many, rfl, rfl, by show 0 ≤ sizeLine; decide, fun fo nfo => ⟨_, _, rfl, ?_⟩⟩
    obtain ⟨bo, bz⟩ := hB.get
    have nbf : b ≠ fo := ne_of_none bz nfo
    refine ⟨_, rfl, many, 1, rfl, rfl, many - 1, rfl, by omega, by omega, ?_⟩
    refine for_range (lo := 0) (n := (many - 1).toNat) (fun i σ H' => ∃ y5 y6, ∃ left : Int, ∃ ns : List Int, σ = [some (.ref b), some (.int total), some (.int many), some (.int left), some (.ref fo), y5, y6] ∧ 0 ≤ left ∧ left ≤ total - many ∧ ns.length = i ∧ (∀ x ∈ ns, 1 ≤ x ∧ x ≤ total) ∧ SX b H H' ∧ Box H' b (n + i) ∧ H' fo = some (.lst (ns.map V.int))) ?_ ?_ ?_
    · exact ⟨none, none, total - many, [], rfl, by omega, by omega, rfl, fun x hx => absurd hx List.not_mem_nil, .of_same (same_upd nfo), hB.set nbf, upd_same⟩
    · rintro i σ H' hi ⟨y5, y6, left, ns, rfl, l0, l1, hl, hx, x', hB', ef⟩
      refine ⟨_, rfl, _, rfl, left, 1, rfl, rfl, b, left + 1, n + i, rfl, hB', by omega, by omega, by omega, fun r H'' r0 r1 hB'' k'' => ?_⟩
      refine ⟨_, rfl, _, rfl, left, r, rfl, rfl, ?_⟩
      refine ⟨_, rfl, .inl ⟨rfl, _, SqL.of (by rw [k'' fo nbf.symm]; exact ef)⟩, _, rfl, 1, r, rfl, rfl, fo, _, _, rfl, rfl, (by rw [k'' fo nbf.symm]; exact ef), ?_, ?_⟩
      · rw [List.length_map, hl]
        exact small1000 (by omega)
      · refine ⟨_, _, left - r, ns ++ [1 + r], rfl, by omega, by omega, by rw [List.length_append, hl]; rfl, ?_, ((x'.trans (.of_eq k'')).set nfo), hB''.set nbf, ?_⟩
        · intro y hy
          rcases List.mem_append.mp hy with hy | hy
          · exact hx y hy
          · rw [List.mem_singleton.mp hy]; omega
        · rw [upd_same, List.map_append]; rfl
    · rintro σ H' ⟨y5, y6, left, ns, rfl, l0, l1, hl, hx, x', hB', ef⟩
      refine ⟨_, rfl, _, rfl, 1, left, rfl, rfl, by show 1 ≤ sizeLine; decide, fun l2 n2 => ?_⟩
      refine ⟨fo, l2, _, _, rfl, rfl, same_upd n2 _ _ ef, upd_same, by rw [List.length_map]; show ns.length + 1 ≤ sizeLine; rw [sizeLine_eq]; omega, fun p np => ?_⟩
      have x2 : SX b H (upd H' l2 (.lst [.int (1 + left)])) := x'.new n2
      have hB2 : Box (upd H' l2 (.lst [.int (1 + left)])) b (n + (many - 1).toNat) := hB'.new n2
      refine q p _ (ns ++ [1 + left]) (x2.free hB2 np) (by rw [List.length_append, hl]; show ((_ + 1 : Nat) : Int) = _; omega) ?_ ((hB2.new np).le (by omega)) (x2.new np) ?_
      · intro y hy
        rcases List.mem_append.mp hy with hy | hy
        · exact hx y hy
        · rw [List.mem_singleton.mp hy]; omega
      · rw [upd_same, List.map_append]; rfl

def spPlaces : Sp := fun vs H Q _ => ∃ (b pa : Addr) (ns : List Int) (k : Int) (n : Nat), vs = [.ref b, .ref pa, .int k] ∧ Box H b n ∧ n ≤ 900000 ∧ (H pa = some (.lst (ns.map V.int)) ∨ H pa = some (.tup (ns.map V.int))) ∧ 0 ≤ k ∧ k ≤ 10 ∧ ns.length ≤ 30 ∧
  ∀ p H' (ms : List Int), H p = none → ms.Perm (ns ++ List.replicate k.toNat 0) → Box H' b (n + 45) → SX b H H' → H' p = some (.tup (ms.map V.int)) → Q (.ref p) H'
theorem ok_places {f fT : Addr} {fd fdT : FuncData} {k : Nat} (F : Fun K "_law_places" "_law_places" sPlaces f fd)
    (FT : Fun K "_law_take" "_law_take" sTake fT fdT) (bT : Binds K fdT ["_law_box_here", "_law_many"] []) (gT : mg "_law_take" = some (.ref fT)) (ml : mg "len" = none) (mL : mg "list" = none) (mT : mg "tuple" = none) :
    FnOk P w K mg base CX0 (k + 2) f fd ["_law_box_here", "_law_amounts", "_law_nothing"] spPlaces := by
  have GT : FnOk P w K mg base CX0 (k + 1) fT fdT ["_law_box_here", "_law_many"] spTake := ok_take FT
  refine F.ok scPlaces (fun vs H Q E h => ?_) (fun cdv A outer s H vs Q E hr h => ?_)
  · obtain ⟨b, pa, ns, k, n, rfl, _⟩ := h
    rfl
  · obtain ⟨b, pa, ns, kk, n, rfl, hB, hn, epa, k0, k1, hl, q⟩ := h
    refine ⟨_, pss_cons (ps_par (i := 3) (j := 4) rfl scPlaces.nd rfl rfl (by decide) rfl rfl (pa_cons (pe_op op_cat (pe_callTy call_list_of (by rfl) mL (by decide +kernel) (pa_cons (pv 1) pa_nil)) (pe_op op_rep (pe_lst (pa_cons pe_int pa_nil)) (pv 2))) (pa_cons (pe_lst pa_nil) pa_nil)) (by rfl))
      (pss_cons (ps_while PassesOwn.never (pt_cmpR (op_neD hr.units) (pv 3) (pe_lst pa_nil) (nomark _))
        (pss_one (ps_expr (pe_bm PySem.F.plainAttrs_list PySem.F.slot_list_append PySem.F.type_list_append mt_append (pv 4) (pa_cons
          (pe_bm PySem.F.plainAttrs_list PySem.F.slot_list_pop PySem.F.type_list_pop mt_popAt (pv 3) (pa_cons (pe_call GT hr (by rfl) gT FT.kp bT .nil pass0 (pa_cons (pv 0) (pa_cons (pe_callB call_len_seq (by rfl) ml PySem.boot_len (pa_cons (pv 3) pa_nil)) pa_nil))) pa_nil)) pa_nil)))))
      (pss_one (ps_ret (pe_callTy call_tuple_of (by rfl) mT (by decide +kernel) (pa_cons (pv 4) pa_nil))))), ?_⟩
    obtain ⟨bo, bz⟩ := hB.get
    refine ⟨_, rfl, pa, ns.map V.int, rfl, epa.elim (fun e => .inl (SqL.of e)) (fun e => .inr (SqT.of e)), fun l1 n1 => ?_⟩
    have s1 : Same H (upd H l1 (.lst (ns.map V.int))) := same_upd n1
    have g1 : upd H l1 (.lst (ns.map V.int)) l1 = some (.lst (ns.map V.int)) := upd_same
    generalize upd H l1 (HO.lst (ns.map V.int)) = H1 at s1 g1 ⊢
    refine ⟨by show 1 ≤ sizeLine; decide, fun l2 n2 => ?_⟩
    have s2 : Same H1 (upd H1 l2 (.lst [.int 0])) := same_upd n2
    refine ⟨_, rfl, l2, kk, [.int 0], rfl, rfl, upd_same, by omega, by omega, by show 1 * kk.toNat ≤ sizeLine; rw [sizeLine_eq]; omega, fun l3 n3 => ?_⟩
    have er : (List.replicate kk.toNat [V.int 0]).flatten = (List.replicate kk.toNat (0 : Int)).map V.int := by
      induction kk.toNat with
      | zero => rfl
      | succ m ih => rw [List.replicate_succ, List.flatten_cons, ih, List.replicate_succ]; rfl
    rw [er]
    have s3 : Same (upd H1 l2 (.lst [.int 0])) (upd (upd H1 l2 (.lst [.int 0])) l3 (.lst ((List.replicate kk.toNat (0 : Int)).map V.int))) := same_upd n3
    have g3 : upd (upd H1 l2 (.lst [.int 0])) l3 (.lst ((List.replicate kk.toNat (0 : Int)).map V.int)) l3 = some (.lst ((List.replicate kk.toNat (0 : Int)).map V.int)) := upd_same
    have S3 := s1.trans (s2.trans s3)
    have g13 := s3 _ _ (s2 _ _ g1)
    generalize upd (upd H1 l2 (.lst [.int 0])) l3 (.lst ((List.replicate kk.toNat (0 : Int)).map V.int)) = H3 at s3 g3 S3 g13 ⊢
    refine ⟨l1, l3, _, _, rfl, rfl, g13, g3, by rw [List.length_map, List.length_map, List.length_replicate, sizeLine_eq]; omega, fun l nl => ?_⟩
    rw [← List.map_append]
    have s4 : Same H3 (upd H3 l (.lst ((ns ++ List.replicate kk.toNat 0).map V.int))) := same_upd nl
    have g4 : upd H3 l (.lst ((ns ++ List.replicate kk.toNat 0).map V.int)) l = some (.lst ((ns ++ List.replicate kk.toNat 0).map V.int)) := upd_same
    have fl : H l = none := S3.free nl
    generalize upd H3 l (.lst ((ns ++ List.replicate kk.toNat 0).map V.int)) = H4 at s4 g4 ⊢
    have S4 := S3.trans s4
    refine ⟨by show 0 ≤ sizeLine; decide, fun fo nfo => ⟨_, _, rfl, ?_⟩⟩
    have ffo : H fo = none := S4.free nfo
    have nlf : l ≠ fo := ne_of_none g4 nfo
    have nbl : b ≠ l := ne_of_none bz fl
    have nbf : b ≠ fo := ne_of_none bz ffo
    have hB5 : Box (upd H4 fo (.lst [])) b n := by
      have := s4.trans (same_upd nfo (o := .lst []))
      have e5 := (S3.trans this) _ _ bz
      exact hB.at (by rw [e5, bz])
    have tot : (ns ++ List.replicate kk.toNat 0).length ≤ 40 := by rw [List.length_append, List.length_replicate]; omega
    generalize hall : ns ++ List.replicate kk.toNat 0 = all at g4 tot q
    refine while_by (fun σ H' => ∃ ls ms : List Int, σ = [some (.ref b), some (.ref pa), some (.int kk), some (.ref l), some (.ref fo)] ∧ (ls ++ ms).Perm all ∧ SX b H H' ∧ Box H' b (n + ms.length) ∧ H' l = some (.lst (ls.map V.int)) ∧ H' fo = some (.lst (ms.map V.int)))
      (fun _ H' => match H' l with | some (.lst xs) => xs.length | _ => 0) ⟨all, [], rfl, by rw [List.append_nil], (SX.of_same S4).new nfo, hB5, by rw [upd_ne nlf]; exact g4, upd_same⟩ ?_ ?_
    · rintro σ H' ⟨ls, ms, rfl, pm, x', hB', el, ef⟩
      have hlen := pm.length_eq
      rw [List.length_append] at hlen
      refine ⟨.ref l, rfl, by show 0 ≤ sizeLine; decide, fun e ne => ?_⟩
      have se : Same H' (upd H' e (.lst [])) := same_upd ne
      have ge : upd H' e (.lst []) e = some (.lst []) := upd_same
      have xe : SX b H (upd H' e (.lst [])) := x'.new ne
      have hBe : Box (upd H' e (.lst [])) b (n + ms.length) := hB'.new ne
      generalize upd H' e (HO.lst []) = G at se ge xe hBe ⊢
      have elG := se _ _ el
      have efG := se _ _ ef
      refine ⟨.list (ls.map PyData.int), .list [], .lst (SqL.of elG) (dpInts ls), .lst (SqL.of ge) .nil, shaped_ints ls, rfl, _, rfl, ?_⟩
      cases ls with
      | nil =>
        refine iteF ?_
        refine ⟨.ref fo, rfl, fo, _, rfl, .inl ⟨SqL.of efG, fun p np => ?_⟩⟩
        refine q p _ ms (xe.free hBe np) pm ((hBe.new np).le ?_) (xe.new np) upd_same
        have : ms.length ≤ 40 := by
          rw [List.length_nil] at hlen
          omega
        omega
      | cons i0 lr =>
        refine iteT ?_
        refine ⟨.ref fo, rfl, .inl ⟨rfl, _, SqL.of efG⟩, .ref l, rfl, .inl ⟨rfl, _, SqL.of elG⟩, .ref b, rfl, .ref l, rfl, l, _, rfl, .inl (SqL.of elG), ?_⟩
        rw [List.length_map]
        refine ⟨b, (((i0 :: lr).length : Nat) : Int), n + ms.length, rfl, hBe, by omega, by rw [List.length_cons]; omega, by omega, fun r H2 r0 r1 hB2 k2 => ?_⟩
        obtain ⟨j, rfl⟩ : ∃ j : Nat, r = (j : Int) := ⟨r.toNat, by omega⟩
        have hj : j < (i0 :: lr).length := by omega
        have el2 : H2 l = some (.lst ((i0 :: lr).map V.int)) := by rw [k2 l nbl.symm]; exact elG
        have ef2 : H2 fo = some (.lst (ms.map V.int)) := by rw [k2 fo nbf.symm]; exact efG
        have x2 : SX b H H2 := xe.trans (.of_eq k2)
        have hix : seqIndex? (j : Int) ((i0 :: lr).map V.int).length = some j := by
          unfold seqIndex?
          rw [List.length_map, if_neg (show ¬ (j : Int) < 0 by omega)]
          show (if (decide (0 ≤ (j : Int)) && decide ((j : Int) < ((i0 :: lr).length : Nat))) = true then some (j : Int).toNat else none) = some j
          rw [decide_eq_true (show 0 ≤ (j : Int) by omega), decide_eq_true (show (j : Int) < ((i0 :: lr).length : Nat) by omega)]
          rfl
        refine ⟨l, _, (j : Int), j, .int (i0 :: lr)[j], rfl, rfl, el2, by omega, by omega, hix, by rw [List.getElem?_map, List.getElem?_eq_getElem hj]; rfl, ?_⟩
        refine ⟨fo, _, _, rfl, rfl, by rw [upd_ne nlf.symm]; exact ef2, by rw [List.length_map]; exact small1000 (by omega), ?_⟩
        refine ⟨⟨(i0 :: lr).eraseIdx j, ms ++ [(i0 :: lr)[j]], rfl, ?_, (x2.set fl).set ffo, ?_, ?_, ?_⟩, ?_⟩
        · refine List.Perm.trans ?_ pm
          have h1 : ((i0 :: lr)[j] :: (i0 :: lr).eraseIdx j).Perm (i0 :: lr) := erase_perm _ j hj
          have h2 : ((i0 :: lr).eraseIdx j ++ (ms ++ [(i0 :: lr)[j]])).Perm ((i0 :: lr)[j] :: ((i0 :: lr).eraseIdx j ++ ms)) := by
            rw [← List.append_assoc]
            exact List.perm_append_comm
          refine h2.trans ?_
          rw [← List.cons_append]
          exact h1.append_right ms
        · rw [List.length_append]
          exact ((hB2.set nbl).set nbf)
        · rw [upd_ne nlf, upd_same, map_erase]
        · rw [upd_same, List.map_append]; rfl
        · show (match upd (upd H2 l _) fo _ l with | some (.lst xs) => xs.length | _ => 0) < (match H' l with | some (.lst xs) => xs.length | _ => 0)
          rw [upd_ne nlf, upd_same, el]
          show (((i0 :: lr).map V.int).eraseIdx j).length < ((i0 :: lr).map V.int).length
          rw [List.length_eraseIdx_of_lt (by rw [List.length_map]; exact hj), List.length_map, List.length_cons]
          omega
    · rintro σ H' Q1 Q2 hq ⟨x, e1, hz, h⟩
      refine ⟨x, e1, hz, fun p np => ?_⟩
      obtain ⟨d, e, a1, a2, a3, a4, z, a5, a6⟩ := h p np
      exact ⟨d, e, a1, a2, a3, a4, z, a5, hq _ _ a6⟩
end
end K15

namespace K15
open PySem PySem.Spec PyProof.Rows L2 MG
/-- a statement, a word that holds behind it, the rest -/
def tMid (t u : TS) : TS := fun D σ H => ∃ M : L2.St → Hp → Prop, t { D with nx := M } σ H ∧ ∀ σ1 H1, M σ1 H1 → u D σ1 H1
theorem pss_mid {X : Cx} {st : Stmt} {rest : List Stmt} {t u : TS} (a : PS X st t) (b : PSs X rest u) : PSs X (st :: rest) (tMid t u) := by
  constructor
  rintro pins s σ H D I ⟨M, hm, hu⟩
  refine wpAny_execs_cons (thn (a.run pins s σ H { D with nx := M } I hm) ?_)
  intro fl s1 q
  cases fl with
  | next =>
    obtain ⟨σ1, H1, I1, w⟩ := q
    exact b.run pins s1 σ1 H1 D I1 (hu σ1 H1 w)
  | ret v => exact q
  | brk => exact q
  | cont => exact q

abbrev sLine : Stmt := topS 29
abbrev nLine : List Str := ["_law_box_here", "_law_least", "_law_greatest", "_law_most", "_law_many", "_law_way", "_law_share", "_law_total", "_law_amounts", "_law_amount"]
theorem scLine : FnScope ["_law_box_here", "_law_least", "_law_greatest", "_law_most", "_law_many", "_law_way", "_law_share", "_law_total", "_law_amounts", "_law_amount"] ["_law_box_here", "_law_least", "_law_greatest", "_law_most"] (defScope sLine) := ⟨rfl, rfl, rfl, by decide +kernel, rfl, by decide +kernel, by decide +kernel⟩

section
variable {P : Program} {w : World} {K : PySem.W.Frag} {mg : Str → Option Value} {base : Heap}
def spLine : Sp := fun vs H Q _ => ∃ (b : Addr) (least greatest most : Int) (n : Nat), vs = [.ref b, .int least, .int greatest, .int most] ∧ Box H b n ∧ n ≤ 800000 ∧ 1 ≤ least ∧ least ≤ greatest ∧ greatest ≤ 15 ∧ 1 ≤ most ∧ most ≤ 10 ^ 38 ∧
  ∀ p H' (ns : List Int), H p = none → (least ≤ ns.length) → (ns.length ≤ greatest + 2) → (∀ x ∈ ns, 0 ≤ x ∧ x ≤ 24 * (most + 16)) → (least ≤ cnt ns) → Box H' b (n + 100) → SX b H H' → H' p = some (.tup (ns.map V.int)) → Q (.ref p) H'
theorem ok_line {f fT fO fS fP : Addr} {fd fdT fdO fdS fdP : FuncData} {k : Nat} (F : Fun K "_law_row" "_law_row" sLine f fd)
    (FT : Fun K "_law_take" "_law_take" sTake fT fdT) (bT : Binds K fdT ["_law_box_here", "_law_many"] []) (gT : mg "_law_take" = some (.ref fT))
    (FO : Fun K "_law_of" "_law_of" sOf fO fdO) (bO : Binds K fdO ["_law_box_here", "_law_some"] []) (gO : mg "_law_of" = some (.ref fO))
    (FS : Fun K "_law_split" "_law_split" sSplit fS fdS) (bS : Binds K fdS ["_law_box_here", "_law_total", "_law_many"] []) (gS : mg "_law_split" = some (.ref fS)) (GS : FnOk P w K mg base CX0 (k + 2) fS fdS ["_law_box_here", "_law_total", "_law_many"] spSplit)
    (FP : Fun K "_law_places" "_law_places" sPlaces fP fdP) (bP : Binds K fdP ["_law_box_here", "_law_amounts", "_law_nothing"] []) (gP : mg "_law_places" = some (.ref fP)) (GP : FnOk P w K mg base CX0 (k + 2) fP fdP ["_law_box_here", "_law_amounts", "_law_nothing"] spPlaces)
    (ml : mg "len" = none) (mM : mg "max" = none) :
    FnOk P w K mg base CX0 (k + 3) f fd ["_law_box_here", "_law_least", "_law_greatest", "_law_most"] spLine := by
  have GT : FnOk P w K mg base CX0 (k + 1) fT fdT ["_law_box_here", "_law_many"] spTake := ok_take FT
  have GO : FnOk P w K mg base CX0 (k + 2) fO fdO ["_law_box_here", "_law_some"] spOf := ok_of FO FT bT gT ml
  refine F.ok scLine (fun vs H Q E h => ?_) (fun cdv A outer s H vs Q E hr h => ?_)
  · obtain ⟨b, least, greatest, most, n, rfl, _⟩ := h
    rfl
  · obtain ⟨b, least, greatest, most, n, rfl, hB, hn, a1, a2, a3, a4, a5, q⟩ := h
    have hr1 := hr.mono (show k + 1 ≤ k + 2 by omega)
    refine ⟨_, pss_cons (ps_set (i := 4) scLine.nd rfl (.inl rfl) (pe_op op_add (pv 1) (pe_call GT hr1 (by rfl) gT FT.kp bT .nil pass0 (pa_cons (pv 0) (pa_cons (pe_op op_add (pe_op op_sub (pv 2) (pv 1)) pe_int) pa_nil)))))
      (pss_cons (ps_asg (pe_tup (pa_cons (pe_call GT hr1 (by rfl) gT FT.kp bT .nil pass0 (pa_cons (pv 0) (pa_cons pe_int pa_nil)))
          (pa_cons (pe_call GO hr (by rfl) gO FO.kp bO .nil pass0 (pa_cons (pv 0) (pa_cons (pe_lst (pa_cons pe_int (pa_cons pe_int (pa_cons pe_int (pa_cons pe_int (pa_cons pe_int (pa_cons pe_int (pa_cons pe_int pa_nil)))))))) pa_nil))) pa_nil)))
          (pg_tup rfl (pgs_cons (pg_name (i := 5) scLine.nd rfl (.inl rfl)) (pgs_cons (pg_name (i := 6) scLine.nd rfl (.inr rfl)) pgs_nil))))
      (pss_cons (ps_set (i := 7) scLine.nd rfl (.inl rfl) (pe_callB (call_max2 rfl) (by rfl) mM (by decide +kernel) (pa_cons (pv 4) (pa_cons (pe_op op_add pe_int
          (pe_call GT hr1 (by rfl) gT FT.kp bT .nil pass0 (pa_cons (pv 0) (pa_cons (pe_callB (call_max2 rfl) (by rfl) mM (by decide +kernel) (pa_cons pe_int (pa_cons (pe_op op_fdivW (pv 3) (pv 6)) pa_nil))) pa_nil)))) pa_nil))))
      (pss_cons (ps_set (i := 8) scLine.nd rfl (.inl rfl) (pe_call GS hr (by rfl) gS FS.kp bS .nil pass0 (pa_cons (pv 0) (pa_cons (pv 7) (pa_cons (pv 4) pa_nil)))))
      (pss_mid (ps_if (pt_cmpR op_eq (pv 5) pe_int (nomark _))
          (pss_one (ps_setLc (i := 8) (own := [("_law_amount", 9)]) (g := gName 9) (tt := tYes) rfl scLine.nd rfl rfl (sw_true rfl rfl rfl (by decide +kernel)) (pi_list (pv 8))
            (blkOk_by (N := nLine) (sc := defScope sLine) (by decide +kernel)) (fun _ _ _ _ _ => pg_name (i := 9) scLine.nd rfl (Or.inl rfl)) (fun _ _ _ _ _ => pts_nil)
            (fun _ _ _ _ _ => pe_op op_add (pe_op op_mul pe_int (pe_op op_fdiv (pv 9) pe_int)) pe_int)))
          (pss_one (ps_if (pt_cmpR op_eq (pv 5) pe_int (nomark _))
            (pss_one (ps_set (i := 8) scLine.nd rfl (.inl rfl) (pe_op op_rep (pe_lst (pa_cons (pe_ix ix_list (pv 8) pe_int (fun _ _ => rfl)) pa_nil)) (pv 4))))
            (pss_one (ps_if (pt_cmpR op_eq (pv 5) pe_int (nomark _))
              (pss_one (ps_set (i := 8) scLine.nd rfl (.inl rfl) (pe_op op_cat (pe_lst (pa_cons (pe_ix ix_list (pv 8) pe_int (fun _ _ => rfl)) pa_nil))
                (pe_lc (own := [("_law_amount", 9)]) (g := gName 9) (tt := tYes) rfl scLine.nd (pi_list (pe_slice sl_list (pv 8) (po_some pe_int) po_none))
                  (blkOk_by (N := nLine) (sc := defScope sLine) (by decide +kernel)) (fun _ _ _ _ _ => pg_name (i := 9) scLine.nd rfl (Or.inl rfl)) (fun _ _ _ _ _ => pts_nil)
                  (fun _ _ _ _ _ => pe_op op_mul pe_int (pv 9))))))
              pss_nil)))))
      (pss_one (ps_ret (pe_call GP hr (by rfl) gP FP.kp bP .nil pass0 (pa_cons (pv 0) (pa_cons
          (pe_lc (own := [("_law_amount", 9)]) (g := gName 9) (tt := tYes) rfl scLine.nd (pi_list (pv 8))
            (blkOk_by (N := nLine) (sc := defScope sLine) (by decide +kernel)) (fun _ _ _ _ _ => pg_name (i := 9) scLine.nd rfl (Or.inl rfl)) (fun _ _ _ _ _ => pts_nil)
            (fun _ _ _ _ _ => pe_op op_mul (pv 6) (pv 9)))
          (pa_cons (pe_call GO hr (by rfl) gO FO.kp bO .nil pass0 (pa_cons (pv 0) (pa_cons (pe_lst (pa_cons pe_int (pa_cons pe_int (pa_cons pe_int (pa_cons pe_int (pa_cons pe_int pa_nil)))))) pa_nil))) pa_nil)))))))))), ?_⟩
    obtain ⟨bo, bz⟩ := hB.get
    refine ⟨_, rfl, _, rfl, _, rfl, _, rfl, greatest, least, rfl, rfl, _, 1, rfl, rfl, b, greatest - least + 1, n, rfl, hB, by omega, by omega, by omega, fun r1 H1 r10 r11 hB1 k1 => ⟨least, r1, rfl, rfl, ?_⟩⟩
    refine ⟨_, rfl, b, 6, n + 1, rfl, hB1, by omega, by decide, by decide, fun wy H2 w0 w1 hB2 k2 => ?_⟩
    refine ⟨_, rfl, by show 7 ≤ sizeLine; decide, fun l nl => ?_⟩
    have x2 : SX b H H2 := (SX.of_eq k1).trans (.of_eq k2)
    obtain ⟨bo2, bz2⟩ := hB2.get
    refine ⟨b, l, n + 1 + 1, _, rfl, hB2.new nl, by omega, upd_same, ne_of_none bz2 nl, by show 1 ≤ 7; decide, by show 7 ≤ 1000; decide, fun sc H3 hsc hB3 k3 => ?_⟩
    obtain ⟨scale, rfl, sc1, sc6⟩ : ∃ v : Int, sc = .int v ∧ 1 ≤ v ∧ v ≤ 6 := by
      simp only [List.mem_cons, List.not_mem_nil, or_false] at hsc
      rcases hsc with h | h | h | h | h | h | h <;> exact ⟨_, h, by decide, by decide⟩
    have x3 : SX b H H3 := (x2.new nl).trans (.of_eq k3)
    refine ⟨by show 2 ≤ sizeLine; decide, fun tp ntp => ?_⟩
    refine ⟨tp, _, rfl, SqT.of upd_same, rfl, .int wy, [.int scale], rfl, .int scale, [], rfl, rfl, ?_⟩
    have x4 : SX b H (upd H3 tp (.tup [.int wy, .int scale])) := x3.new ntp
    have hB4 : Box (upd H3 tp (.tup [.int wy, .int scale])) b (n + 1 + 1 + 1) := hB3.new ntp
    generalize upd H3 tp (HO.tup [.int wy, .int scale]) = H4 at x4 hB4 ⊢
    have hdiv : CDivW most scale := wide_div (b := 10) (by omega) (by omega) (by decide) (by decide)
    have q0 : 0 ≤ most / scale := Int.ediv_nonneg (by omega) (by omega)
    have q1 : most / scale ≤ most := Int.ediv_le_self _ (by omega)
    have hmt1 : 1 ≤ (if most / scale > 1 then most / scale else 1) := by split <;> omega
    have hmt2 : (if most / scale > 1 then most / scale else 1) ≤ 10 ^ 38 := by split <;> omega
    refine ⟨_, rfl, _, rfl, _, rfl, _, rfl, most, scale, rfl, rfl, hdiv, 1, _, rfl, b, _, n + 1 + 1 + 1, rfl, hB4, by omega, hmt1, by omega, fun r2 H5 r20 r21 hB5 k5 => ⟨1, r2, rfl, rfl, _, _, rfl, ?_⟩⟩
    have x5 : SX b H H5 := x4.trans (.of_eq k5)
    dsimp only
    generalize hmany : least + r1 = many
    generalize htot : (if 1 + r2 > many then 1 + r2 else many) = total
    have t1 : many ≤ total := by rw [← htot]; split <;> omega
    have t2 : total ≤ 10 ^ 39 := by rw [← htot]; split <;> omega
    have t3 : total ≤ most + 16 := by
      have : (if most / scale > 1 then most / scale else 1) ≤ most := by split <;> omega
      rw [← htot]; split <;> omega
    refine ⟨_, rfl, _, rfl, _, rfl, b, total, many, n + 1 + 1 + 1 + 1, rfl, hB5, by omega, by omega, by omega, t1, t2, fun pa H6 ns6 np6 hl6 hx6 hB6 x6' e_pa => ?_⟩
    have x6 : SX b H H6 := x5.trans x6'
    have hl7 : ns6.length ≤ 15 := by omega
    refine ⟨fun σ H' => ∃ pa ns y9, σ = [some (.ref b), some (.int least), some (.int greatest), some (.int most), some (.int many), some (.int wy), some (.int scale), some (.int total), some (.ref pa), y9] ∧ H' pa = some (.lst (List.map V.int ns)) ∧ (ns.length : Int) = many ∧ (∀ x ∈ ns, 1 ≤ x ∧ x ≤ 2 * total + 1) ∧ SX b H H' ∧ Box H' b (n + 24), ?_, ?_⟩
    · have stay : ∀ {H' : Hp}, Same H6 H' → SX b H H' ∧ Box H' b (n + 24) := fun sm => by
        obtain ⟨o, z⟩ := hB6.get
        exact ⟨x6.trans (.of_same sm), (hB6.at (by rw [sm _ _ z, z])).le (by omega)⟩
      refine ⟨_, rfl, rfl, _, rfl, ite2 (fun _ => ?_) (fun _ => ?_)⟩
      · refine ⟨.ref pa, rfl, pa, rfl, ⟨_, SqL.of e_pa⟩, fun D nD => ?_⟩
        refine lc_list (K := K) (a := pa) (xs := ns6.map V.int) (fun i H' => Same H6 H' ∧ H' D = some (.lst (((ns6.take i).map fun x => 2 * (x / 2) + 1).map V.int))) ⟨same_upd nD, upd_same⟩ ?_ ?_ ?_
        · rintro i H' _ ⟨sm, _⟩
          exact SqL.of (sm _ _ e_pa)
        · rintro i x H' hx ⟨sm, hD⟩
          rw [List.getElem?_map] at hx
          obtain ⟨v, hv, rfl⟩ := Option.map_eq_some_iff.mp hx
          refine ⟨rfl, _, rfl, v, 2, rfl, rfl, ⟨by decide, by decide⟩, 2, _, rfl, rfl, .inl ⟨by decide, by decide⟩, _, 1, rfl, rfl, _, hD, ?_, ?_, ?_⟩
          · rw [List.length_map, List.length_map, List.length_take]
            exact small1000 (by omega)
          · intro c o hc
            rw [upd_ne (ne_of_none hc nD)]
            exact sm c o hc
          · rw [upd_same, List.take_add_one, hv, List.map_append, List.map_append]
            rfl
        · rintro H' ⟨sm, hD⟩
          rw [List.length_map, List.take_length] at hD
          refine ⟨D, ns6.map fun x => 2 * (x / 2) + 1, _, rfl, hD, by rw [List.length_map]; exact hl6, ?_, stay sm⟩
          intro y hy
          obtain ⟨z, hz, rfl⟩ := List.mem_map.mp hy
          have := hx6 z hz
          omega
      refine ⟨_, rfl, rfl, _, rfl, ite2 (fun _ => ?_) (fun _ => ?_)⟩
      · have h0 : 0 < ns6.length := by omega
        refine ⟨.ref pa, rfl, pa, _, 0, .int ns6[0], rfl, rfl, SqL.of e_pa, atI_nat (j := 0) (by rw [List.getElem?_map, List.getElem?_eq_getElem h0]; rfl), by show 1 ≤ sizeLine; decide, fun l2 n2 => ?_⟩
        refine ⟨_, rfl, l2, many, [.int ns6[0]], rfl, rfl, upd_same, by omega, by omega, by show 1 * many.toNat ≤ sizeLine; rw [sizeLine_eq]; omega, fun l3 n3 => ?_⟩
        have er : (List.replicate many.toNat [V.int ns6[0]]).flatten = (List.replicate many.toNat ns6[0]).map V.int := by
          induction many.toNat with
          | zero => rfl
          | succ m ih => rw [List.replicate_succ, List.flatten_cons, ih, List.replicate_succ]; rfl
        rw [er]
        refine ⟨l3, List.replicate many.toNat ns6[0], _, rfl, upd_same, by rw [List.length_replicate]; omega, ?_, stay ((same_upd n2).trans (same_upd n3))⟩
        intro y hy
        rw [List.eq_of_mem_replicate hy]
        have := hx6 _ (List.getElem_mem h0)
        omega
      refine ⟨_, rfl, rfl, _, rfl, ite2 (fun _ => ?_) (fun _ => ?_)⟩
      · have h0 : 0 < ns6.length := by omega
        refine ⟨.ref pa, rfl, pa, _, 0, .int ns6[0], rfl, rfl, SqL.of e_pa, atI_nat (j := 0) (by rw [List.getElem?_map, List.getElem?_eq_getElem h0]; rfl), by show 1 ≤ sizeLine; decide, fun l2 n2 => ?_⟩
        have s7 : Same H6 (upd H6 l2 (.lst [.int ns6[0]])) := same_upd n2
        have g7 : upd H6 l2 (.lst [.int ns6[0]]) l2 = some (.lst [.int ns6[0]]) := upd_same
        generalize upd H6 l2 (HO.lst [.int ns6[0]]) = H7 at s7 g7 ⊢
        refine ⟨.ref pa, rfl, 1, rfl, ?_⟩
        dsimp only [tNoPart]
        refine ⟨pa, _, rfl, SqL.of (s7 _ _ e_pa), fun ps nps => ?_⟩
        have ecut : cutV (ns6.map V.int) (some 1) none = (ns6.drop 1).map V.int := by
          rw [List.map_drop]
          unfold cutV
          rw [show HT.sIx (ns6.map V.int).length 0 (some 1) = min 1 (ns6.map V.int).length from HT.sIx_nat _ 0 1, HT.sIx_none]
          rw [show min 1 (ns6.map V.int).length = 1 by rw [List.length_map]; omega]
          rw [List.take_of_length_le (by rw [List.length_drop]; omega)]
        rw [ecut]
        have s8 : Same H7 (upd H7 ps (.lst ((ns6.drop 1).map V.int))) := same_upd nps
        have e_ps : upd H7 ps (.lst ((ns6.drop 1).map V.int)) ps = some (.lst ((ns6.drop 1).map V.int)) := upd_same
        generalize upd H7 ps (HO.lst ((ns6.drop 1).map V.int)) = H8 at s8 e_ps ⊢
        have hl8 : (ns6.drop 1).length ≤ 15 := by rw [List.length_drop]; omega
        refine ⟨ps, rfl, ⟨_, SqL.of e_ps⟩, fun D nD => ?_⟩
        refine lc_list (K := K) (a := ps) (xs := (ns6.drop 1).map V.int) (fun i H' => Same H8 H' ∧ H' D = some (.lst ((((ns6.drop 1).take i).map fun x => 2 * x).map V.int))) ⟨same_upd nD, upd_same⟩ ?_ ?_ ?_
        · rintro i H' _ ⟨sm, _⟩
          exact SqL.of (sm _ _ e_ps)
        · rintro i x H' hx ⟨sm, hD⟩
          rw [List.getElem?_map] at hx
          obtain ⟨v, hv, rfl⟩ := Option.map_eq_some_iff.mp hx
          refine ⟨rfl, _, rfl, 2, v, rfl, rfl, .inl ⟨by decide, by decide⟩, _, hD, ?_, ?_, ?_⟩
          · rw [List.length_map, List.length_map, List.length_take]
            exact small1000 (by omega)
          · intro c o hc
            rw [upd_ne (ne_of_none hc nD)]
            exact sm c o hc
          · rw [upd_same, List.take_add_one, hv, List.map_append, List.map_append]
            rfl
        · rintro H' ⟨sm, hD⟩
          rw [List.length_map, List.take_length] at hD
          refine ⟨l2, D, _, _, rfl, rfl, sm _ _ (s8 _ _ g7), hD, by rw [List.length_map, List.length_map]; show 1 + _ ≤ sizeLine; rw [sizeLine_eq]; omega, fun l9 n9 => ?_⟩
          refine ⟨l9, ns6[0] :: (ns6.drop 1).map fun x => 2 * x, _, rfl, upd_same, ?_, ?_, stay (s7.trans (s8.trans (sm.trans (same_upd n9))))⟩
          · rw [List.length_cons, List.length_map, List.length_drop]; omega
          · intro y hy
            rcases List.mem_cons.mp hy with rfl | hy
            · have := hx6 _ (List.getElem_mem h0)
              omega
            · obtain ⟨z, hz, rfl⟩ := List.mem_map.mp hy
              have := hx6 z (List.mem_of_mem_drop hz)
              omega
      · exact ⟨pa, ns6, _, rfl, e_pa, hl6, fun x hx => by have := hx6 x hx; omega, stay (Same.refl _)⟩
    · rintro σ H7 ⟨pa, ns7, y9, rfl, e_pa, hl7', hx7, x7, hB7⟩
      have hl7 : ns7.length ≤ 15 := by omega
      refine ⟨_, rfl, .ref pa, rfl, pa, rfl, ⟨_, SqL.of e_pa⟩, fun D nD => ?_⟩
      refine lc_list (K := K) (a := pa) (xs := ns7.map V.int) (fun i H' => Same H7 H' ∧ H' D = some (.lst (((ns7.take i).map fun x => scale * x).map V.int))) ⟨same_upd nD, upd_same⟩ ?_ ?_ ?_
      · rintro i H' _ ⟨sm, _⟩
        exact SqL.of (sm _ _ e_pa)
      · rintro i x H' hx ⟨sm, hD⟩
        rw [List.getElem?_map] at hx
        obtain ⟨v, hv, rfl⟩ := Option.map_eq_some_iff.mp hx
        refine ⟨rfl, _, rfl, _, rfl, scale, v, rfl, rfl, .inl ⟨by omega, by omega⟩, _, hD, ?_, ?_, ?_⟩
        · rw [List.length_map, List.length_map, List.length_take]
          exact small1000 (by omega)
        · intro c o hc
          rw [upd_ne (ne_of_none hc nD)]
          exact sm c o hc
        · rw [upd_same, List.take_add_one, hv, List.map_append, List.map_append]
          rfl
      · rintro H' ⟨sm, hD⟩
        rw [List.length_map, List.take_length] at hD
        obtain ⟨o7, z7⟩ := hB7.get
        have hB8 : Box H' b (n + 24) := hB7.at (by rw [sm _ _ z7, z7])
        have x8 : SX b H H' := x7.trans (.of_same sm)
        refine ⟨_, rfl, by show 5 ≤ sizeLine; decide, fun l2 n2 => ?_⟩
        obtain ⟨o8, z8⟩ := hB8.get
        refine ⟨b, l2, n + 24, _, rfl, hB8.new n2, by omega, upd_same, ne_of_none z8 n2, by show 1 ≤ 5; decide, by show 5 ≤ 1000; decide, fun nt H9 hnt hB9 k9 => ?_⟩
        obtain ⟨nt, rfl, nt0, nt2⟩ : ∃ v : Int, nt = .int v ∧ 0 ≤ v ∧ v ≤ 2 := by
          simp only [List.mem_cons, List.not_mem_nil, or_false] at hnt
          rcases hnt with h | h | h | h | h <;> exact ⟨_, h, by decide, by decide⟩
        have x9 : SX b H H9 := (x8.new n2).trans (.of_eq k9)
        have nDb : D ≠ b := fun z => by
          rw [z] at hD
          obtain ⟨_, _, _, w8, _⟩ := hB8
          rw [w8] at hD
          have hh := HO.lst.inj (Option.some.inj hD)
          have hlen3 := congrArg List.length hh
          rw [z] at nD
          rw [nD] at z7
          cases z7
        have eD9 : H9 D = some (.lst ((ns7.map fun x => scale * x).map V.int)) := by rw [k9 D nDb]; exact same_upd n2 _ _ hD
        refine ⟨b, D, ns7.map fun x => scale * x, nt, n + 24 + 1, rfl, hB9, by omega, .inl eD9, nt0, by omega, by rw [List.length_map]; omega, fun p H10 ms np pm hB10 x10 ep => ?_⟩
        have hlm := pm.length_eq
        rw [List.length_append, List.length_map, List.length_replicate] at hlm
        have hmem : ∀ x ∈ ms, 0 ≤ x ∧ x ≤ 24 * (most + 16) := fun x hx => by
          rcases List.mem_append.mp (pm.mem_iff.mp hx) with h | h
          · obtain ⟨z, hz, rfl⟩ := List.mem_map.mp h
            have h7 := hx7 z hz
            have u1 : 0 ≤ scale * z := Int.mul_nonneg (by omega) (by omega)
            have u2 : scale * z ≤ 6 * z := Int.mul_le_mul_of_nonneg_right sc6 (by omega)
            omega
          · rw [List.eq_of_mem_replicate h]; omega
        have hpos : least ≤ cnt ms := by
          unfold MG.cnt
          rw [(pm.filter _).length_eq, List.filter_append, List.length_append, List.filter_eq_self.mpr (fun n hn => by
            obtain ⟨z, hz, rfl⟩ := List.mem_map.mp hn
            have h7 := hx7 z hz
            exact decide_eq_true (Int.mul_pos (by omega) (by omega))), List.length_map]
          omega
        exact q p H10 ms (x9.free hB9 np) (by omega) (by omega) hmem hpos (hB10.le (by omega)) (x9.trans x10) ep
end
end K15

namespace K15
open PySem PySem.Spec PyProof.Rows L2 MG
theorem odd_at {n t : Nat} (h : 0 < n) (ht : t ≤ v2 n) : n / 2 ^ t % 2 = 1 ↔ v2 n ≤ t := by
  constructor
  · intro z
    refine Nat.le_of_not_lt fun hlt => ?_
    have h1 : 2 ^ (t + 1) ∣ n := (pow_dvd_iff h).mpr hlt
    obtain ⟨c, hc⟩ := h1
    have : n / 2 ^ t = 2 * c := Nat.div_eq_of_eq_mul_right (Nat.two_pow_pos t) (by rw [hc, Nat.pow_succ, Nat.mul_assoc])
    omega
  · intro z
    have e : t = v2 n := Nat.le_antisymm ht z
    rw [e]; exact odd_rest h
theorem v2_lt {n k : Nat} (h : 0 < n) (hk : n < 2 ^ k) : v2 n < k := by
  refine Nat.lt_of_not_le fun z => ?_
  have h1 := Nat.le_of_dvd h (pow_v2_dvd n)
  have h2 : 2 ^ k ≤ 2 ^ v2 n := Nat.pow_le_pow_right (by decide) z
  omega
/-- the count that the parting by hand tells -/
def oddC (g : Nat) (l : List Int) : List Int := l.filter fun n => decide (n / ((g : Int) / ((g : Int) / 2 ^ v2 g)) % 2 = 1)
theorem oddC_eq {ns : List Int} (hp : ∃ n ∈ ns, 0 < n) : (oddC (gl ns) (ns.filter fun n => decide (n > 0))).length = (fewT (v2 (gl ns)) ns).length := by
  obtain ⟨n0, hn0, h0⟩ := hp
  have hg : 0 < gl ns := gl_pos hn0 h0
  have e1 : ((gl ns : Int) / ((gl ns : Int) / 2 ^ v2 (gl ns))) = ((2 ^ v2 (gl ns) : Nat) : Int) := by
    have e2 : ((gl ns : Int) / 2 ^ v2 (gl ns)) = ((gl ns / 2 ^ v2 (gl ns) : Nat) : Int) := by
      rw [Int.natCast_ediv, Int.natCast_pow]; rfl
    rw [e2, ← Int.natCast_ediv]
    congr 1
    have h3 := v2_split hg
    have h4 : 0 < gl ns / 2 ^ v2 (gl ns) := by
      rcases Nat.eq_zero_or_pos (gl ns / 2 ^ v2 (gl ns)) with z | z
      · rw [z, Nat.mul_zero] at h3; omega
      · exact z
    exact Nat.div_eq_of_eq_mul_left h4 h3
  unfold oddC fewT
  rw [List.filter_filter, e1]
  congr 1
  refine List.filter_congr fun n hn => ?_
  by_cases hpos : n > 0
  · rw [decide_eq_true hpos, Bool.and_true, Bool.true_and]
    have hd : gl ns ∣ n.toNat := gl_dvd hn
    have ht : v2 (gl ns) ≤ v2 n.toNat := (pow_dvd_iff (by omega)).mp (Nat.dvd_trans (pow_v2_dvd _) hd)
    have key := odd_at (n := n.toNat) (by omega) ht
    have e3 : n / ((2 ^ v2 (gl ns) : Nat) : Int) % 2 = ((n.toNat / 2 ^ v2 (gl ns) % 2 : Nat) : Int) := by
      rw [Int.natCast_emod, Int.natCast_ediv, Int.toNat_of_nonneg (by omega)]
      rfl
    rw [e3]
    by_cases z : n.toNat / 2 ^ v2 (gl ns) % 2 = 1
    · rw [z, decide_eq_true (key.mp z)]; rfl
    · rw [decide_eq_false (fun y => z (key.mpr y)), decide_eq_false (fun y => z (by omega))]
  · rw [decide_eq_false hpos, Bool.and_false, Bool.false_and]

abbrev sStays : Stmt := topS 32
abbrev nStays : List Str := ["_law_row_here", "_law_amount", "_law_some", "_law_share", "_law_one", "_law_other", "_law_odd", "_law_many"]
theorem scStays : FnScope ["_law_row_here", "_law_amount", "_law_some", "_law_share", "_law_one", "_law_other", "_law_odd", "_law_many"] ["_law_row_here"] (defScope sStays) := ⟨rfl, rfl, rfl, by decide +kernel, rfl, by decide +kernel, by decide +kernel⟩

section
variable {P : Program} {w : World} {K : PySem.W.Frag} {mg : Str → Option Value} {base : Heap}
def spStays : Sp := fun vs H Q _ => ∃ a ns, vs = [.ref a] ∧ Row H a ns ∧ ∀ p H', Same H H' → H' p = some (.tup [.int ns.sum, .int ((gl ns : Nat) / 2 ^ v2 (gl ns)), .int (v2 (gl ns) : Nat), .int ((fewT (v2 (gl ns)) ns).length : Nat)]) → Q (.ref p) H'
theorem ok_stays {f : Addr} {fd : FuncData} {k : Nat} (F : Fun K "_law_stays" "_law_stays" sStays f fd) (ml : mg "len" = none) (mS : mg "sum" = none) :
    FnOk P w K mg base CX0 (k + 1) f fd ["_law_row_here"] spStays := by
  refine F.ok scStays (fun vs H Q E h => ?_) (fun cdv A outer s H vs Q E hr h => ?_)
  · obtain ⟨a, ns, rfl, _⟩ := h
    rfl
  · obtain ⟨a, ns, rfl, r, q⟩ := h
    refine ⟨_, pss_cons (ps_setLc (i := 2) (own := [("_law_amount", 1)]) (g := gName 1) rfl scStays.nd rfl rfl (sw_true rfl rfl rfl (by decide +kernel)) (pi_tup (pv 0))
          (blkOk_by (N := nStays) (sc := defScope sStays) (by decide +kernel)) (fun _ _ _ _ _ => pg_name (i := 1) scStays.nd rfl (Or.inl rfl))
          (fun _ _ _ _ _ => pts_one (pt_cmpR op_gt (pv 1) pe_int (nomark _))) (fun _ _ _ _ _ => pv 1))
      (pss_cons (ps_set (i := 3) scStays.nd rfl (.inr rfl) pe_int)
      (pss_cons (ps_for PassesOwn.never rfl (pi_list (pv 2)) (pg_name (i := 1) scStays.nd rfl (.inl rfl))
        (pss_cons (ps_par (i := 4) (j := 5) rfl scStays.nd rfl rfl (by decide) rfl rfl (pa_cons (pv 3) (pa_cons (pv 1) pa_nil)) (by rfl))
        (pss_cons (ps_while PassesOwn.never (pt_cmpR op_gt (pv 5) pe_int (nomark _)) (pss_one (ps_par (i := 4) (j := 5) rfl scStays.nd rfl rfl (by decide) rfl rfl (pa_cons (pv 5) (pa_cons (pe_op op_mod (pv 4) (pv 5)) pa_nil)) (by rfl))))
        (pss_one (ps_set (i := 3) scStays.nd rfl (.inr rfl) (pv 4))))))
      (pss_cons (ps_asg (pe_tup (pa_cons (pv 3) (pa_cons pe_int pa_nil))) (pg_tup rfl (pgs_cons (pg_name (i := 6) scStays.nd rfl (.inr rfl)) (pgs_cons (pg_name (i := 7) scStays.nd rfl (.inl rfl)) pgs_nil))))
      (pss_cons (ps_while PassesOwn.never (pt_cmpR op_eq (pe_op op_mod (pv 6) pe_int) pe_int (nomark _))
        (pss_one (ps_asg (pe_tup (pa_cons (pe_op op_fdiv (pv 6) pe_int) (pa_cons (pe_op op_add (pv 7) pe_int) pa_nil))) (pg_tup rfl (pgs_cons (pg_name (i := 6) scStays.nd rfl (.inr rfl)) (pgs_cons (pg_name (i := 7) scStays.nd rfl (.inl rfl)) pgs_nil))))))
      (pss_one (ps_ret (pe_tup (pa_cons (pe_callB (sumT rfl) (by rfl) mS (by decide +kernel) (pa_cons (pv 0) pa_nil)) (pa_cons (pv 6) (pa_cons (pv 7) (pa_cons
          (pe_callB call_len_seq (by rfl) ml PySem.boot_len (pa_cons
            (pe_lc (own := [("_law_amount", 1)]) (g := gName 1) rfl scStays.nd (pi_list (pv 2)) (blkOk_by (N := nStays) (sc := defScope sStays) (by decide +kernel))
              (fun _ _ _ _ _ => pg_name (i := 1) scStays.nd rfl (Or.inl rfl))
              (fun _ _ _ _ _ => pts_one (pt_cmpR op_eq (pe_op op_mod (pe_op op_fdivW (pv 1) (pe_op op_fdivW (pv 3) (pv 6))) pe_int) pe_int (nomark _))) (fun _ _ _ _ _ => pv 1)) pa_nil)) pa_nil))))))))))), ?_⟩
    refine ⟨.ref a, rfl, a, rfl, ⟨_, SqT.of r.1⟩, fun D nD => ?_⟩
    refine lc_tup (K := K) (a := a) (xs := ns.map V.int) (fun i H' => Same H H' ∧ H' D = some (.lst (((ns.take i).filter fun n => decide (n > 0)).map V.int))) ⟨same_upd nD, upd_same⟩ ?_ ?_ ?_
    · rintro i H' _ ⟨sm, _⟩
      exact SqT.of (sm _ _ r.1)
    · rintro i x H' hx ⟨sm, hD⟩
      rw [List.getElem?_map] at hx
      obtain ⟨n, hn, rfl⟩ := Option.map_eq_some_iff.mp hx
      refine ⟨rfl, _, rfl, n, 0, rfl, rfl, _, rfl, ite2 (fun h1 => ?_) (fun h1 => ?_)⟩
      · have h1' : n > 0 := of_decide_eq_true h1
        refine ⟨_, rfl, _, hD, ?_, ?_, ?_⟩
        · rw [List.length_map]
          refine small1000 (Nat.le_trans (List.length_filter_le _ _) ?_)
          rw [List.length_take]
          have := r.2.2.1
          omega
        · intro c o hc
          rw [upd_ne (ne_of_none hc nD)]
          exact sm c o hc
        · rw [upd_same, List.take_add_one, hn, List.filter_append, List.map_append]
          show _ = some (HO.lst (_ ++ List.map V.int (List.filter _ [n])))
          rw [List.filter_cons_of_pos (by simpa using h1'), List.filter_nil]
          rfl
      · have h1' : ¬ n > 0 := fun z => h1 (decide_eq_true z)
        refine ⟨sm, ?_⟩
        rw [List.take_add_one, hn, List.filter_append]
        show _ = some (HO.lst (List.map V.int (_ ++ List.filter _ [n])))
        rw [List.filter_cons_of_neg (by simpa using h1'), List.filter_nil, List.append_nil]
        exact hD
    rintro H1 ⟨s1, hD1⟩
    rw [List.length_map, List.take_length] at hD1
    generalize hps : (ns.filter fun n => decide (n > 0)) = ps at hD1
    have hgl : gl ps = gl ns := by rw [← hps]; exact gl_filter ns
    have hposP : ∀ n ∈ ps, 0 < n := fun n hn => by
      rw [← hps] at hn
      exact of_decide_eq_true (List.mem_filter.mp hn).2
    have hlp : ps.length ≤ 40 := by rw [← hps]; exact Nat.le_trans (List.length_filter_le _ _) r.2.2.1
    refine ⟨.ref D, rfl, D, rfl, ⟨_, SqL.of hD1⟩, ?_⟩
    refine for_list (K := K) (a := D) (xs := ps.map V.int) (fun i σ H' => ∃ y1 y4 y5, σ = [some (.ref a), y1, some (.ref D), some (.int (gl (ps.take i) : Nat)), y4, y5, none, none] ∧ H' = H1) ⟨_, _, _, rfl, rfl⟩ ?_ ?_ ?_
    · rintro i σ H' _ ⟨y1, y4, y5, rfl, rfl⟩
      exact SqL.of hD1
    · rintro i x σ H' hx ⟨y1, y4, y5, rfl, rfl⟩
      rw [List.getElem?_map] at hx
      obtain ⟨n, hn, rfl⟩ := Option.map_eq_some_iff.mp hx
      obtain ⟨hi, hn'⟩ := List.getElem?_eq_some_iff.mp hn
      have h0 : 0 < n := hposP n (List.mem_of_getElem? hn)
      refine ⟨_, rfl, _, rfl, _, _, rfl, ?_⟩
      refine while_by (fun σ H'' => ∃ x y : Nat, σ = [some (.ref a), some (.int n), some (.ref D), some (.int (gl (ps.take i) : Nat)), some (.int x), some (.int y), none, none] ∧ H'' = H' ∧ Nat.gcd x y = gl (ps.take (i + 1))) (fun σ _ => match σ with | [_, _, _, _, _, some (.int y), _, _] => y.toNat | _ => 0) ⟨gl (ps.take i), n.toNat, ?_, rfl, ?_⟩ ?_ ?_
      · rw [Int.toNat_of_nonneg (by omega)]
        rfl
      · rw [gl_take_succ ps i hi, hn']
      · rintro σ H'' ⟨x, y, rfl, rfl, hg⟩
        refine ⟨_, rfl, (y : Int), 0, rfl, rfl, _, rfl, ite2 (fun hy => ?_) (fun hy => ?_)⟩
        · have hy' : 0 < y := by have := of_decide_eq_true hy; omega
          refine ⟨_, rfl, _, rfl, _, rfl, (x : Int), (y : Int), rfl, rfl, (by show (0 : Int) < y; omega), _, _, rfl, ⟨y, x % y, ?_, rfl, ?_⟩, ?_⟩
          · rw [Int.natCast_emod]; rfl
          · rw [← hg, Nat.gcd_comm x y, Nat.gcd_rec y x, Nat.gcd_comm]
          · show ((x : Int) % (y : Int)).toNat < (y : Int).toNat
            rw [← Int.natCast_emod]
            have := Nat.mod_lt x hy'
            omega
        · have hy' : y = 0 := by
            have : ¬ (y : Int) > 0 := fun z => hy (decide_eq_true z)
            omega
          subst hy'
          rw [Nat.gcd_zero_right] at hg
          refine ⟨_, rfl, ?_⟩
          subst hg
          exact ⟨_, _, _, rfl, rfl⟩
      · rintro σ H'' Q1 Q2 hq ⟨x, e1, i, j, e2, e3, z, e4, h⟩
        exact ⟨x, e1, i, j, e2, e3, z, e4, hq _ _ h⟩
    rintro σ H' ⟨y1, y4, y5, rfl, rfl⟩
    rw [List.length_map, List.take_length, hgl]
    have hg0 := r.pos
    have hg1 := r.lt
    refine ⟨_, rfl, by show 2 ≤ sizeLine; decide, fun tp ntp => ⟨tp, _, rfl, SqT.of upd_same, rfl, _, _, rfl, _, _, rfl, rfl, ?_⟩⟩
    have st0 : Same H' (upd H' tp (.tup [.int (gl ns : Nat), .int 0])) := same_upd ntp
    refine while_by (fun σ H'' => ∃ x m : Nat, σ = [some (.ref a), y1, some (.ref D), some (.int (gl ns : Nat)), y4, y5, some (.int x), some (.int m)] ∧ Same H' H'' ∧ 0 < x ∧ gl ns = 2 ^ m * x) (fun σ _ => match σ with | [_, _, _, _, _, _, some (.int x), _] => x.toNat | _ => 0) ⟨gl ns, 0, rfl, st0, hg0, by rw [Nat.pow_zero, Nat.one_mul]⟩ ?_ ?_
    · rintro σ H2 ⟨x, m, rfl, s2, hx0, hgx⟩
      refine ⟨_, rfl, (x : Int), 2, rfl, rfl, (by show (0 : Int) < 2; decide), rfl, _, rfl, ite2 (fun hev => ?_) (fun hod => ?_)⟩
      · have hev' : x % 2 = 0 := by
          have := V.int.inj (of_decide_eq_true hev)
          omega
        refine ⟨_, rfl, (x : Int), 2, rfl, rfl, ⟨by decide, by decide⟩, _, rfl, (m : Int), 1, rfl, rfl, by show 2 ≤ sizeLine; decide, fun t2 nt2 => ⟨t2, _, rfl, SqT.of upd_same, rfl, _, _, rfl, _, _, rfl, rfl, ⟨x / 2, m + 1, ?_, s2.trans (same_upd nt2), by omega, ?_⟩, ?_⟩⟩
        · rw [Int.natCast_ediv, Int.natCast_add]; rfl
        · rw [Nat.pow_succ, Nat.mul_assoc, show 2 * (x / 2) = x by omega]; exact hgx
        · show ((x : Int) / 2).toNat < (x : Int).toNat
          omega
      · have hod' : x % 2 = 1 := by
          have z : ¬ x % 2 = 0 := fun z => hod (decide_eq_true (by
            show V.int ((x : Int) % 2) = V.int 0
            rw [show ((x : Int) % 2) = 0 by omega]))
          omega
        have hm : m = v2 (gl ns) := (v2_unique hgx hod').symm
        have hxd : x = gl ns / 2 ^ v2 (gl ns) := by
          rw [← hm]
          exact (Nat.div_eq_of_eq_mul_right (Nat.two_pow_pos m) hgx).symm
        have hxi : (x : Int) = (gl ns : Int) / 2 ^ v2 (gl ns) := by
          rw [hxd, Int.natCast_ediv, Int.natCast_pow]; rfl
        have hxle : x ≤ gl ns := Nat.le_of_dvd hg0 ⟨2 ^ m, by rw [hgx]; exact Nat.mul_comm _ _⟩
        have hq0 : 0 < (gl ns : Int) / (x : Int) := by
          rw [← Int.natCast_ediv]
          have := Nat.div_pos hxle hx0
          omega
        have hq1 : (gl ns : Int) / (x : Int) ≤ gl ns := Int.ediv_le_self _ (by omega)
        have c1 : CDivW (gl ns : Int) (x : Int) := wide_div (b := 250) (by omega) (by omega) (by decide) (by decide)
        have S2 : Same H H2 := s1.trans s2
        have hD2' := s2 _ _ hD1
        refine ⟨.ref a, rfl, a, ns, rfl, SqT.of (S2 _ _ r.1), _, rfl, _, rfl, .ref D, rfl, D, rfl, ⟨_, SqL.of hD2'⟩, fun D2 nD2 => ?_⟩
        refine lc_list (K := K) (a := D) (xs := ps.map V.int) (fun i H3 => Same H2 H3 ∧ H3 D2 = some (.lst ((oddC (gl ns) (ps.take i)).map V.int))) ⟨same_upd nD2, upd_same⟩ ?_ ?_ ?_
        · rintro i H3 _ ⟨sm, _⟩
          exact SqL.of (sm _ _ hD2')
        · rintro i y H3 hy ⟨sm, hD3⟩
          rw [List.getElem?_map] at hy
          obtain ⟨n, hn, rfl⟩ := Option.map_eq_some_iff.mp hy
          have c2 : CDivW n ((gl ns : Int) / (x : Int)) := wide_div (b := 250) hq0 (by omega) (by decide) (by decide)
          refine ⟨rfl, _, rfl, _, rfl, _, rfl, _, _, rfl, rfl, c1, n, _, rfl, rfl, c2, _, 2, rfl, rfl, (by show (0 : Int) < 2; decide), rfl, _, rfl, ite2 (fun h1 => ?_) (fun h1 => ?_)⟩
          · have h1' : n / ((gl ns : Int) / ((gl ns : Int) / 2 ^ v2 (gl ns))) % 2 = 1 := by
              rw [← hxi]; exact V.int.inj (of_decide_eq_true h1)
            refine ⟨_, rfl, _, hD3, ?_, ?_, ?_⟩
            · rw [List.length_map]
              refine small1000 (Nat.le_trans (List.length_filter_le _ _) ?_)
              rw [List.length_take]
              omega
            · intro c o hc
              rw [upd_ne (ne_of_none hc nD2)]
              exact sm c o hc
            · rw [upd_same, List.take_add_one, hn]
              unfold oddC
              rw [List.filter_append, List.map_append]
              show _ = some (HO.lst (_ ++ List.map V.int (List.filter _ [n])))
              rw [List.filter_cons]
              rw [if_pos (decide_eq_true h1'), List.filter_nil]
              rfl
          · have h1' : ¬ n / ((gl ns : Int) / ((gl ns : Int) / 2 ^ v2 (gl ns))) % 2 = 1 := fun z => h1 (decide_eq_true (by
              rw [← hxi] at z
              show V.int (n / ((gl ns : Int) / (x : Int)) % 2) = V.int 1
              rw [z]))
            refine ⟨sm, ?_⟩
            rw [List.take_add_one, hn]
            unfold oddC at hD3 ⊢
            rw [List.filter_append]
            show _ = some (HO.lst (List.map V.int (_ ++ List.filter _ [n])))
            rw [List.filter_cons]
            rw [if_neg (by rw [decide_eq_false h1']; exact Bool.false_ne_true), List.filter_nil, List.append_nil]
            exact hD3
        · rintro H3 ⟨sm, hD3⟩
          rw [List.length_map, List.take_length] at hD3
          refine ⟨D2, _, rfl, .inl (SqL.of hD3), by show 4 ≤ sizeLine; decide, fun p np => ?_⟩
          refine q p _ (S2.trans (sm.trans (same_upd np))) ?_
          rw [upd_same, List.length_map, ← hps, oddC_eq r.2.2.2, hxi, hm]
    · rintro σ H'' Q1 Q2 hq ⟨x, e1, i, j, e2, e3, e4, e5, z, e6, h⟩
      exact ⟨x, e1, i, j, e2, e3, e4, e5, z, e6, hq _ _ h⟩
end
end K15

namespace K15
open PySem PySem.Spec PyProof.Rows L2 MG
abbrev sHolders : Stmt := topS 12
abbrev sHfn : Stmt := topS 18
abbrev sAsked : Stmt := topS 19
abbrev sBroken : Stmt := topS 21
abbrev nBroken : List Str := ["row", "other", "clauses", "clause", "is_broken"]
theorem scHolders : FnScope ["row", "place", "amount"] ["row"] (defScope sHolders) := ⟨rfl, rfl, rfl, by decide +kernel, rfl, by decide +kernel, by decide +kernel⟩
theorem scHfn : FnScope ["row", "other", "before", "behind"] ["row", "other"] (defScope sHfn) := ⟨rfl, rfl, rfl, by decide +kernel, rfl, by decide +kernel, by decide +kernel⟩
theorem scAsked : FnScope ["row", "other", "as_many_twos"] ["row", "other"] (defScope sAsked) := ⟨rfl, rfl, rfl, by decide +kernel, rfl, by decide +kernel, by decide +kernel⟩
theorem scBroken : FnScope ["row", "other", "clauses", "clause", "is_broken"] ["row", "other"] (defScope sBroken) := ⟨rfl, rfl, rfl, by decide +kernel, rfl, by decide +kernel, by decide +kernel⟩
section
variable {P : Program} {w : World} {K : PySem.W.Frag} {mg : Str → Option Value} {base : Heap}
def spHolders : Sp := fun vs H Q _ => ∃ a ns, vs = [.ref a] ∧ H a = some (.tup (ns.map V.int)) ∧ ns.length ≤ 40 ∧
  ∀ H' p, Same H H' → H' p = some (.tup ((hold ns ns.length).map V.int)) → Q (.ref p) H'
theorem ok_holders {f : Addr} {fd : FuncData} {k : Nat} (F : Fun K "holders" "holders" sHolders f fd) (mT : mg "tuple" = none) (mE : mg "enumerate" = none) :
    FnOk P w K mg base CX0 (k + 1) f fd ["row"] spHolders := by
  refine F.ok scHolders (fun vs H Q E h => ?_) (fun cdv A outer s H vs Q E hr h => ?_)
  · obtain ⟨a, ns, rfl, _⟩ := h
    rfl
  · obtain ⟨a, ns, rfl, e, hl, q⟩ := h
    refine ⟨_, pss_one (ps_ret (pe_callTy call_tuple_of (by rfl) mT (by decide +kernel) (pa_cons
      (pe_lc (own := [("place", 1), ("amount", 2)]) (g := gTup K 2 (gCons (gName 1) (gCons (gName 2) gNil))) rfl scHolders.nd (pi_enumT (by rfl) mE (pa_cons (pv 0) pa_nil))
        (blkOk_by (N := ["row", "place", "amount"]) (sc := defScope sHolders) (by decide +kernel))
        (fun _ _ _ _ _ => pg_tup rfl (pgs_cons (pg_name (i := 1) scHolders.nd rfl (.inl rfl) (.inr rfl)) (pgs_cons (pg_name (i := 2) scHolders.nd rfl (.inl rfl) (.inr rfl)) pgs_nil)))
        (fun _ _ _ _ _ => pts_one (pt_cmpR op_gt (pv 2) pe_int (nomark _)))
        (fun _ _ _ _ _ => pv 1)) pa_nil))), ?_⟩
    have hS : SqT K H a (ns.map V.int) := SqT.of e
    refine ⟨.ref a, rfl, a, ns.map V.int, rfl, hS, fun D nD => ?_⟩
    refine lc_it (walk_enumT (K := K) (a := a) (xs := ns.map V.int)) (fun i H' => Same H H' ∧ H' D = some (.lst ((hold ns i).map V.int))) ⟨same_upd nD, upd_same⟩ ?_ ?_ ?_
    · intro i H' _ h
      exact SqT.of (h.1 _ _ e)
    · rintro i x H' H'' hi ⟨sm, hD⟩ ⟨T, x1, x2, rfl, nT, rfl, e1, e2⟩
      rw [List.length_map] at hi
      have e1' : x1 = .int (i : Nat) := (Option.some.inj e1).symm
      have e2' : x2 = .int ns[i] := by
        have z : (ns.map V.int)[i]? = some x2 := e2
        rw [List.getElem?_map, List.getElem?_eq_getElem hi] at z
        exact (Option.some.inj z).symm
      subst e1' e2'
      have smT : Same H' (upd H' T (.tup [.int (i : Nat), .int ns[i]])) := same_upd nT
      have hg : ns.getD i 0 = ns[i] := by rw [List.getD_eq_getElem?_getD, List.getElem?_eq_getElem hi]; rfl
      refine ⟨T, [.int (i : Nat), .int ns[i]], rfl, .inl (.inl upd_same), rfl, .int (i : Nat), [.int ns[i]], rfl, .int ns[i], [], rfl, rfl, rfl, _, rfl, ns[i], 0, rfl, rfl, _, rfl, ?_⟩
      refine ite2 (fun hp => ?_) (fun hp => ?_)
      · have hp' : 0 < ns[i] := of_decide_eq_true hp
        refine ⟨.int (i : Nat), rfl, _, smT _ _ hD, ?_, ?_, ?_⟩
        · rw [List.length_map]
          exact small1000 (Nat.le_trans (hold_len ns i) (by omega))
        · intro c o hc
          rw [upd_ne (ne_of_none hc nD)]
          exact smT _ _ (sm c o hc)
        · rw [upd_same, hold_succ, hg, if_pos hp', List.map_append]
          rfl
      · have hp' : ¬ 0 < ns[i] := fun z => hp (decide_eq_true z)
        refine ⟨sm.trans smT, ?_⟩
        rw [hold_succ, hg, if_neg hp', List.append_nil]
        exact smT _ _ hD
    · rintro H' ⟨sm, hD⟩
      rw [List.length_map] at hD
      refine ⟨D, _, rfl, .inl ⟨.inl (.inl hD), fun p np => ?_⟩⟩
      exact q _ p (sm.trans (same_upd np)) upd_same

def hfnL (r o : List Int) : List Bool := (r.zip o).map fun p => decide (p.1 = 0) && decide (p.2 > 0)
def spHfn : Sp := fun vs H Q _ => ∃ a b r o, vs = [.ref a, .ref b] ∧ H a = some (.tup (List.map V.int r)) ∧ H b = some (.tup (List.map V.int o)) ∧ r.length = o.length ∧ r.length ≤ 40 ∧ ∀ H', Same H H' → Q (.bl (hfn r o)) H'
theorem ok_hfn {f : Addr} {fd : FuncData} {k : Nat} (F : Fun K "has_from_nothing" "has_from_nothing" sHfn f fd) (mA : mg "any" = none) (mZ : mg "zip" = none) :
    FnOk P w K mg base CX0 (k + 1) f fd ["row", "other"] spHfn := by
  refine F.ok scHfn (fun vs H Q E h => ?_) (fun cdv A outer s H vs Q E hr h => ?_)
  · obtain ⟨a, b, r, o, rfl, _⟩ := h
    rfl
  · obtain ⟨a, b, r, o, rfl, ea, eb, hl, hn, q⟩ := h
    refine ⟨_, pss_one (ps_ret (pe_callB (cr_any rfl) (by rfl) mA (by decide +kernel) (pa_cons
      (pe_lc (own := [("before", 2), ("behind", 3)]) (g := gTup K 2 (gCons (gName 2) (gCons (gName 3) gNil))) (tt := tYes) rfl scHfn.nd (RZ.pi_zipA (by rfl) mZ (pa_cons (pv 0) (pa_cons (pv 1) pa_nil)))
        (blkOk_by (N := ["row", "other", "before", "behind"]) (sc := defScope sHfn) (by decide +kernel))
        (fun _ _ _ _ _ => pg_tup rfl (pgs_cons (pg_name (i := 2) scHfn.nd rfl (.inl rfl) (.inr rfl)) (pgs_cons (pg_name (i := 3) scHfn.nd rfl (.inl rfl) (.inr rfl)) pgs_nil)))
        (fun _ _ _ _ _ => pts_nil)
        (fun _ _ _ _ _ => pe_and (pe_cmpR op_eq (pv 2) pe_int (nomark _)) (pe_one (pe_cmpR op_gt (pv 3) pe_int (nomark _))))) pa_nil))), ?_⟩
    refine ⟨_, rfl, _, rfl, a, b, _, _, rfl, .inr ⟨SqT.of ea, SqT.of eb, fun D nD => ?_⟩⟩
    refine lc_it (walk_zipT (K := K) (a := a) (b := b) (xs := r.map V.int) (ys := o.map V.int) (n := r.length) (by rw [List.length_map, List.length_map]; omega)) (fun i H' => Same H H' ∧ H' D = some (.lst (((hfnL r o).take i).map V.bl))) ⟨same_upd nD, upd_same⟩ ?_ ?_ ?_
    · intro i H' _ h
      exact ⟨SqT.of (h.1 _ _ ea), SqT.of (h.1 _ _ eb)⟩
    · rintro i x H' H'' hi ⟨sm, hD⟩ ⟨T, x1, x2, rfl, nT, rfl, e1, e2⟩
      have hi2 : i < o.length := by omega
      have e1' : x1 = .int r[i] := by
        have z : (r.map V.int)[i]? = some x1 := e1
        rw [List.getElem?_map, List.getElem?_eq_getElem hi] at z
        exact (Option.some.inj z).symm
      have e2' : x2 = .int o[i] := by
        have z : (o.map V.int)[i]? = some x2 := e2
        rw [List.getElem?_map, List.getElem?_eq_getElem hi2] at z
        exact (Option.some.inj z).symm
      subst e1' e2'
      have smT : Same H' (upd H' T (.tup [.int r[i], .int o[i]])) := same_upd nT
      have hz : (hfnL r o)[i]? = some (decide (r[i] = 0) && decide (o[i] > 0)) := by
        unfold hfnL
        rw [List.getElem?_map, (List.getElem?_zip_eq_some (z := (r[i], o[i]))).mpr ⟨List.getElem?_eq_getElem hi, List.getElem?_eq_getElem hi2⟩]
        rfl
      have fin : ∀ y, y = (decide (r[i] = 0) && decide (o[i] > 0)) → ∃ acc, upd H' T (.tup [.int r[i], .int o[i]]) D = some (.lst acc) ∧ acc.length < sizeLine ∧ Same H (upd (upd H' T (.tup [.int r[i], .int o[i]])) D (.lst (acc ++ [V.bl y]))) ∧ upd (upd H' T (.tup [.int r[i], .int o[i]])) D (.lst (acc ++ [V.bl y])) D = some (.lst (((hfnL r o).take (i + 1)).map V.bl)) := fun y hy => by
        refine ⟨_, smT _ _ hD, ?_, ?_, ?_⟩
        · rw [List.length_map, List.length_take]
          exact small1000 (by omega)
        · intro c o hc
          rw [upd_ne (ne_of_none hc nD)]
          exact smT _ _ (sm c o hc)
        · rw [upd_same, List.take_add_one, hz, List.map_append, hy]
          rfl
      refine ⟨T, [.int r[i], .int o[i]], rfl, .inl (.inl upd_same), rfl, .int r[i], [.int o[i]], rfl, .int o[i], [], rfl, rfl, rfl, ?_⟩
      refine ⟨_, rfl, rfl, _, rfl, ?_⟩
      have ez : decide (V.int r[i] = V.int 0) = decide (r[i] = 0) := by
        by_cases z : r[i] = 0
        · rw [z]; rfl
        · rw [decide_eq_false z, decide_eq_false (fun y => z (V.int.inj y))]
      rw [ez]
      refine ite2 (fun hp => ?_) (fun hp => ?_)
      · refine ⟨_, rfl, _, 0, rfl, rfl, ?_⟩
        exact fin _ (by rw [hp]; rfl)
      · have hp' : decide (r[i] = 0) = false := by cases h : decide (r[i] = 0) <;> first | rfl | exact absurd h hp
        exact fin _ (by rw [hp']; rfl)
    · rintro H' ⟨sm, hD⟩
      have hlen : (hfnL r o).length = r.length := by
        unfold hfnL
        rw [List.length_map, List.length_zip]; omega
      rw [← hlen, List.take_length] at hD
      refine ⟨D, hfnL r o, rfl, SqL.of hD, ?_⟩
      have e : (hfnL r o).any id = hfn r o := by
        unfold hfnL hfn
        rw [List.any_map]
        rfl
      rw [e]
      exact q H' sm
end
end K15

namespace K15
open PySem PySem.Spec PyProof.Rows L2 MG
theorem decV (x y : Int) : decide (V.int x = V.int y) = decide (x = y) := by
  by_cases h : x = y
  · rw [h]; simp
  · rw [decide_eq_false h, decide_eq_false (fun z => h (V.int.inj z))]
theorem decN (a b : Nat) : decide ((a : Int) = (b : Int)) = decide (a = b) := by
  by_cases h : a = b
  · rw [h]; simp
  · rw [decide_eq_false h, decide_eq_false (fun z => h (by omega))]
theorem decL (a b : Nat) : decide ((a : Int) < (b : Int)) = decide (a < b) := by
  by_cases h : a < b
  · rw [decide_eq_true h, decide_eq_true (show (a : Int) < b by omega)]
  · rw [decide_eq_false h, decide_eq_false (show ¬ (a : Int) < b by omega)]
theorem notD (p : Prop) [Decidable p] : (!decide p) = decide (¬ p) := by
  by_cases h : p
  · rw [decide_eq_true h, decide_eq_false (fun z => z h)]; rfl
  · rw [decide_eq_false h, decide_eq_true h]; rfl
section
variable {P : Program} {w : World} {K : PySem.W.Frag} {mg : Str → Option Value} {base : Heap}
def spAsked : Sp := fun vs H Q _ => ∃ a b r o, vs = [.ref a, .ref b] ∧ Row H a r ∧ Row H b o ∧ r.length = o.length ∧ ∀ H' p ts, Same H H' → H' p = some (.tup (ts.map V.ref)) → PairsAt H' ts (asked r o) → Q (.ref p) H'
theorem ok_asked {f fT fN fM fO fH : Addr} {fd fdT fdN fdM fdO fdH : FuncData} {k : Nat} (F : Fun K "asked_of_any" "asked_of_any" sAsked f fd)
    (FT : Fun K "twos" "twos" sTwos fT fdT) (bT : Binds K fdT ["row"] []) (gT : mg "twos" = some (.ref fT)) (GT : FnOk P w K mg base CX0 (k + 3) fT fdT ["row"] spTwos)
    (FN : Fun K "has_from_nothing" "has_from_nothing" sHfn fN fdN) (bN : Binds K fdN ["row", "other"] []) (gN : mg "has_from_nothing" = some (.ref fN)) (GN : FnOk P w K mg base CX0 (k + 1) fN fdN ["row", "other"] spHfn)
    (FM : Fun K "measure" "measure" sMeasure fM fdM) (bM : Binds K fdM ["row"] []) (gM : mg "measure" = some (.ref fM)) (GM : FnOk P w K mg base CX0 (k + 3) fM fdM ["row"] spMeasure)
    (FO : Fun K "odd_ones" "odd_ones" sOddOnes fO fdO) (bO : Binds K fdO ["row"] []) (gO : mg "odd_ones" = some (.ref fO)) (GO : FnOk P w K mg base CX0 (k + 4) fO fdO ["row"] spOddOnes)
    (FH : Fun K "holders" "holders" sHolders fH fdH) (bH : Binds K fdH ["row"] []) (gH : mg "holders" = some (.ref fH)) (GH : FnOk P w K mg base CX0 (k + 1) fH fdH ["row"] spHolders)
    (mS : mg "sum" = none) (ml : mg "len" = none) : FnOk P w K mg base CX0 (k + 5) f fd ["row", "other"] spAsked := by
  refine F.ok scAsked (fun vs H Q E h => ?_) (fun cdv A outer s H vs Q E hr h => ?_)
  · obtain ⟨a, b, r, o, rfl, _⟩ := h
    rfl
  · obtain ⟨a, b, r, o, rfl, ra, rb, hl, q⟩ := h
    have hr1 := hr.mono (show k + 1 ≤ k + 4 by omega)
    have hr3 := hr.mono (show k + 3 ≤ k + 4 by omega)
    refine ⟨_, pss_cons (ps_set (i := 2) scAsked.nd rfl (.inl rfl) (pe_cmpR op_eq (pe_call GT hr3 (by rfl) gT FT.kp bT .nil pass0 (pa_cons (pv 1) pa_nil)) (pe_call GT hr3 (by rfl) gT FT.kp bT .nil pass0 (pa_cons (pv 0) pa_nil)) (nomark _)))
      (pss_one (ps_ret (pe_tup (pa_cons
        (pe_tup (pa_cons pe_str (pa_cons (pe_cmpR op_ne (pe_callB (sumT rfl) (by rfl) mS (by decide +kernel) (pa_cons (pv 1) pa_nil)) (pe_callB (sumT rfl) (by rfl) mS (by decide +kernel) (pa_cons (pv 0) pa_nil)) (nomark _)) pa_nil))) (pa_cons
        (pe_tup (pa_cons pe_str (pa_cons (pe_call GN hr1 (by rfl) gN FN.kp bN .nil pass0 (pa_cons (pv 0) (pa_cons (pv 1) pa_nil))) pa_nil))) (pa_cons
        (pe_tup (pa_cons pe_str (pa_cons (pe_cmpR op_ne (pe_call GM hr3 (by rfl) gM FM.kp bM .nil pass0 (pa_cons (pv 1) pa_nil)) (pe_call GM hr3 (by rfl) gM FM.kp bM .nil pass0 (pa_cons (pv 0) pa_nil)) (nomark _)) pa_nil))) (pa_cons
        (pe_tup (pa_cons pe_str (pa_cons (pe_cmpR op_lt (pe_call GT hr3 (by rfl) gT FT.kp bT .nil pass0 (pa_cons (pv 1) pa_nil)) (pe_call GT hr3 (by rfl) gT FT.kp bT .nil pass0 (pa_cons (pv 0) pa_nil)) (nomark _)) pa_nil))) (pa_cons
        (pe_tup (pa_cons pe_str (pa_cons (pe_and (pv 2) (pe_one (pe_cmpR op_gt (pe_call GO hr (by rfl) gO FO.kp bO .nil pass0 (pa_cons (pv 1) pa_nil)) (pe_call GO hr (by rfl) gO FO.kp bO .nil pass0 (pa_cons (pv 0) pa_nil)) (nomark _)))) pa_nil))) (pa_cons
        (pe_tup (pa_cons pe_str (pa_cons (pe_and (pv 2) (pe_one (pe_cmpR op_eq (pe_call GO hr (by rfl) gO FO.kp bO .nil pass0 (pa_cons (pv 1) pa_nil))
          (pe_callB call_len_seq (by rfl) ml PySem.boot_len (pa_cons (pe_call GH hr1 (by rfl) gH FH.kp bH .nil pass0 (pa_cons (pv 1) pa_nil)) pa_nil)) (nomark _)))) pa_nil))) pa_nil))))))))), ?_⟩
    refine ⟨_, rfl, b, o, rfl, rb, _, rfl, a, r, rfl, ra, rfl, ?_⟩
    rw [decV, decN]
    refine ⟨_, rfl, b, o, rfl, SqT.of rb.1, _, rfl, a, r, rfl, SqT.of ra.1, rfl, by show 2 ≤ sizeLine; decide, fun t1 n1 => ?_⟩
    rw [decV, notD]
    have s1 : Same H (upd H t1 (.tup [.str "sum", .bl (decide (¬ o.sum = r.sum))])) := same_upd n1
    have e1 : upd H t1 (.tup [.str "sum", .bl (decide (¬ o.sum = r.sum))]) t1 = some (.tup [.str "sum", .bl (decide (¬ o.sum = r.sum))]) := upd_same
    generalize upd H t1 (HO.tup [.str "sum", .bl (decide (¬ o.sum = r.sum))]) = H1 at s1 e1 ⊢
    have ra1 := ra.same s1
    have rb1 := rb.same s1
    refine ⟨_, rfl, _, rfl, a, b, r, o, rfl, ra1.1, rb1.1, hl, ra.2.2.1, fun G2 sG2 => ⟨by show 2 ≤ sizeLine; decide, fun t2 n2 => ?_⟩⟩
    have s2 : Same H1 (upd G2 t2 (.tup [.str "nothing", .bl (hfn r o)])) := sG2.trans (same_upd n2)
    have e2 : upd G2 t2 (.tup [.str "nothing", .bl (hfn r o)]) t2 = some (.tup [.str "nothing", .bl (hfn r o)]) := upd_same
    generalize upd G2 t2 (HO.tup [.str "nothing", .bl (hfn r o)]) = H2 at s2 e2 ⊢
    have ra2 := ra1.same s2
    have rb2 := rb1.same s2
    refine ⟨_, rfl, b, o, rfl, rb2, _, rfl, a, r, rfl, ra2, rfl, by show 2 ≤ sizeLine; decide, fun t3 n3 => ?_⟩
    rw [decV, notD]
    have s3 : Same H2 (upd H2 t3 (.tup [.str "measure", .bl (decide (¬ ms o = ms r))])) := same_upd n3
    have e3 : upd H2 t3 (.tup [.str "measure", .bl (decide (¬ ms o = ms r))]) t3 = some (.tup [.str "measure", .bl (decide (¬ ms o = ms r))]) := upd_same
    show tCons _ _ _ (upd H2 t3 (.tup [.str "measure", .bl (decide (¬ ms o = ms r))])) _
    generalize upd H2 t3 (HO.tup [.str "measure", .bl (decide (¬ ms o = ms r))]) = H3 at s3 e3 ⊢
    have ra3 := ra2.same s3
    have rb3 := rb2.same s3
    refine ⟨_, rfl, b, o, rfl, rb3, _, rfl, a, r, rfl, ra3, _, _, rfl, rfl, by show 2 ≤ sizeLine; decide, fun t4 n4 => ?_⟩
    dsimp only
    rw [decL]
    have s4 : Same H3 (upd H3 t4 (.tup [.str "twos", .bl (decide (v2 (gl o) < v2 (gl r)))])) := same_upd n4
    have e4 : upd H3 t4 (.tup [.str "twos", .bl (decide (v2 (gl o) < v2 (gl r)))]) t4 = some (.tup [.str "twos", .bl (decide (v2 (gl o) < v2 (gl r)))]) := upd_same
    generalize upd H3 t4 (HO.tup [.str "twos", .bl (decide (v2 (gl o) < v2 (gl r)))]) = H4 at s4 e4 ⊢
    have ra4 := ra3.same s4
    have rb4 := rb3.same s4
    have S4 := s1.trans (s2.trans (s3.trans s4))
    have fin : ∀ (G : Hp) (t5 t6 p : Addr), Same H4 G → G t5 = some (.tup [.str "odd ones", .bl (decide (v2 (gl o) = v2 (gl r)) && decide (od r < od o))]) →
        G t6 = some (.tup [.str "doubled", .bl (decide (v2 (gl o) = v2 (gl r)) && decide (od o = (hold o o.length).length))]) → G p = some (.tup ([t1, t2, t3, t4, t5, t6].map V.ref)) → Q (.ref p) G := by
      intro G t5 t6 p sG h5 h6 hp
      refine q G p [t1, t2, t3, t4, t5, t6] (S4.trans sG) hp ?_
      exact .cons (sG _ _ (s4 _ _ (s3 _ _ (s2 _ _ e1)))) (.cons (sG _ _ (s4 _ _ (s3 _ _ e2))) (.cons (sG _ _ (s4 _ _ e3)) (.cons (sG _ _ e4) (.cons h5 (.cons h6 .nil)))))
    cases hA : decide (v2 (gl o) = v2 (gl r)) with
    | false =>
      rw [hA] at fin
      refine ⟨_, rfl, _, rfl, iteF ⟨by show 2 ≤ sizeLine; decide, fun t5 n5 => ?_⟩⟩
      refine ⟨_, rfl, _, rfl, iteF ⟨by show 2 ≤ sizeLine; decide, fun t6 n6 => ?_⟩⟩
      refine ⟨by show 6 ≤ sizeLine; decide, fun p np => ?_⟩
      exact fin _ t5 t6 p ((same_upd n5).trans ((same_upd n6).trans (same_upd np))) (same_upd np _ _ (same_upd n6 _ _ upd_same)) (same_upd np _ _ upd_same) upd_same
    | true =>
      rw [hA] at fin
      refine ⟨_, rfl, _, rfl, iteT ⟨_, rfl, b, o, rfl, rb4, fun G5 z5 => ⟨_, rfl, a, r, rfl, ra4.same z5, fun G6 z6 => ?_⟩⟩⟩
      refine ⟨_, _, rfl, rfl, by show 2 ≤ sizeLine; decide, fun t5 n5 => ?_⟩
      have e5' : decide (((fewT (v2 (gl r)) r).length : Int) < ((fewT (v2 (gl o)) o).length : Int)) = decide (od r < od o) := decL _ _
      dsimp only
      rw [e5']
      have s5 : Same H4 (upd G6 t5 (.tup [.str "odd ones", .bl (decide (od r < od o))])) := z5.trans (z6.trans (same_upd n5))
      have e5 : upd G6 t5 (.tup [.str "odd ones", .bl (decide (od r < od o))]) t5 = some (.tup [.str "odd ones", .bl (decide (od r < od o))]) := upd_same
      generalize upd G6 t5 (HO.tup [.str "odd ones", .bl (decide (od r < od o))]) = H5 at s5 e5 ⊢
      have rb5 := rb4.same s5
      refine ⟨_, rfl, _, rfl, iteT ⟨_, rfl, b, o, rfl, rb5, fun G7 z7 => ⟨_, rfl, b, o, rfl, (rb5.same z7).1, rb5.2.2.1, fun G8 ph z8 e8 => ?_⟩⟩⟩
      refine ⟨ph, _, rfl, .inr (SqT.of e8), rfl, by show 2 ≤ sizeLine; decide, fun t6 n6 => ?_⟩
      rw [decV, List.length_map, decN]
      refine ⟨by show 6 ≤ sizeLine; decide, fun p np => ?_⟩
      refine fin _ t5 t6 p (s5.trans (z7.trans (z8.trans ((same_upd n6).trans (same_upd np))))) (same_upd np _ _ (same_upd n6 _ _ (z8 _ _ (z7 _ _ e5)))) (same_upd np _ _ upd_same) upd_same
def spBroken : Sp := fun vs H Q _ => ∃ a b r o, vs = [.ref a, .ref b] ∧ Row H a r ∧ Row H b o ∧ (r = o ∨ 3 ≤ (hold r r.length).length) ∧ ∀ H' p, Same H H' → H' p = some (.tup ((brkT r o).map V.str)) → Q (.ref p) H'
theorem ok_broken {f fA fH : Addr} {fd fdA fdH : FuncData} {k : Nat} (F : Fun K "broken" "broken" sBroken f fd)
    (FA : Fun K "asked_of_any" "asked_of_any" sAsked fA fdA) (bA : Binds K fdA ["row", "other"] []) (gA : mg "asked_of_any" = some (.ref fA)) (GA : FnOk P w K mg base CX0 (k + 5) fA fdA ["row", "other"] spAsked)
    (FH : Fun K "holders" "holders" sHolders fH fdH) (bH : Binds K fdH ["row"] []) (gH : mg "holders" = some (.ref fH)) (GH : FnOk P w K mg base CX0 (k + 1) fH fdH ["row"] spHolders)
    (ml : mg "len" = none) (mT : mg "tuple" = none) : FnOk P w K mg base CX0 (k + 6) f fd ["row", "other"] spBroken := by
  refine F.ok scBroken (fun vs H Q E h => ?_) (fun cdv A outer s H vs Q E hr h => ?_)
  · obtain ⟨a, b, r, o, rfl, _⟩ := h
    rfl
  · obtain ⟨a, b, r, o, rfl, ra, rb, h3, q⟩ := h
    have hr1 := hr.mono (show k + 1 ≤ k + 5 by omega)
    refine ⟨_, pss_cons (ps_if (pt_cmpR (op_eqD hr.units) (pv 0) (pv 1) (nomark _)) (pss_one (ps_ret (pe_tup pa_nil))) pss_nil)
      (pss_cons (ps_if (pt_cmpR op_ne (pe_callB call_len_seq (by rfl) ml PySem.boot_len (pa_cons (pv 0) pa_nil)) (pe_callB call_len_seq (by rfl) ml PySem.boot_len (pa_cons (pv 1) pa_nil)) (nomark _)) (pss_one (ps_ret (pe_tup (pa_cons pe_str pa_nil)))) pss_nil)
      (pss_cons (ps_set (i := 2) scBroken.nd rfl (.inl rfl) (pe_callTy call_tuple_of (by rfl) mT (by decide +kernel) (pa_cons
        (pe_lc (own := [("clause", 3), ("is_broken", 4)]) (g := gTup K 2 (gCons (gName 3) (gCons (gName 4) gNil))) rfl scBroken.nd (pi_tup (pe_call GA hr (by rfl) gA FA.kp bA .nil pass0 (pa_cons (pv 0) (pa_cons (pv 1) pa_nil))))
          (blkOk_by (N := nBroken) (sc := defScope sBroken) (by decide +kernel))
          (fun _ _ _ _ _ => pg_tup rfl (pgs_cons (pg_name (i := 3) scBroken.nd rfl (.inl rfl) (.inr rfl)) (pgs_cons (pg_name (i := 4) scBroken.nd rfl (.inl rfl) (.inr rfl)) pgs_nil)))
          (fun _ _ _ _ _ => pts_one (pt_val (pv 4)))
          (fun _ _ _ _ _ => pv 3)) pa_nil)))
      (pss_cons (ps_if (PW.pt (pw_or (pt_truth (pv 2) (by intro _; rfl)) (pw_or1 (pt_cmpR op_gt (pe_callB call_len_seq (by rfl) ml PySem.boot_len (pa_cons (pe_call GH hr1 (by rfl) gH FH.kp bH .nil pass0 (pa_cons (pv 0) pa_nil)) pa_nil)) pe_int (nomark _))))) (pss_one (ps_ret (pv 2))) pss_nil)
      pss_never))), ?_⟩
    refine ⟨_, rfl, _, rfl, _, _, .tup (SqT.of ra.1) (dpIntsG r), .tup (SqT.of rb.1) (dpIntsG o), shapedT_ints r, shapedT_ints o, _, rfl, ?_⟩
    rw [eqv_rows]
    unfold brkT at q
    refine ite2 (fun he => ?_) (fun he => ?_)
    · have he' := of_decide_eq_true he
      rw [if_pos he'] at q
      exact ⟨by show 0 ≤ sizeLine; decide, fun p np => q _ p (same_upd np) upd_same⟩
    have he' : ¬ r = o := fun z => he (decide_eq_true z)
    have h3 := h3.resolve_left he'
    rw [if_neg he'] at q
    refine ⟨_, rfl, a, _, rfl, .inr (SqT.of ra.1), _, rfl, b, _, rfl, .inr (SqT.of rb.1), rfl, _, rfl, ?_⟩
    rw [List.length_map, List.length_map, decV, decN, notD]
    refine ite2 (fun hn => ?_) (fun hn => ?_)
    · have hn' := of_decide_eq_true hn
      rw [if_pos hn'] at q
      exact ⟨by show 1 ≤ sizeLine; decide, fun p np => q _ p (same_upd np) upd_same⟩
    have hl : r.length = o.length := Decidable.of_not_not fun z => hn (decide_eq_true z)
    rw [if_neg (fun z => z hl)] at q
    refine ⟨_, rfl, _, rfl, a, b, r, o, rfl, ra, rb, hl, fun H1 p1 ts s1 e1 pr => ?_⟩
    refine ⟨p1, rfl, ⟨_, SqT.of e1⟩, fun D nD => ?_⟩
    have prl := pr.1
    refine lc_tup (K := K) (a := p1) (xs := ts.map V.ref) (fun i H' => Same H1 H' ∧ H' D = some (.lst (((((asked r o).take i).filter fun p => p.2).map fun p => p.1).map V.str))) ⟨same_upd nD, upd_same⟩ ?_ ?_ ?_
    · rintro i H' _ ⟨sm, _⟩
      exact SqT.of (sm _ _ e1)
    · rintro i x H' hx ⟨sm, hD⟩
      rw [List.getElem?_map] at hx
      obtain ⟨t, ht, rfl⟩ := Option.map_eq_some_iff.mp hx
      have hi : i < ts.length := (List.getElem?_eq_some_iff.mp ht).1
      have hc : (asked r o)[i]? = some (asked r o)[i] := List.getElem?_eq_getElem (by omega)
      generalize (asked r o)[i] = c at hc
      have et := sm _ _ (pr.2 i t c ht hc)
      refine ⟨t, _, rfl, SqT.of et, rfl, .str c.1, [.bl c.2], rfl, .bl c.2, [], rfl, rfl, rfl, _, rfl, c.2, rfl, ?_⟩
      have e1 : (asked r o).take (i + 1) = (asked r o).take i ++ [c] := by rw [List.take_add_one, hc]; rfl
      cases hb : c.2 with
      | true =>
        refine iteT ⟨_, rfl, _, hD, ?_, ?_, ?_⟩
        · rw [List.length_map, List.length_map]
          refine small1000 (Nat.le_trans (List.length_filter_le _ _) ?_)
          rw [List.length_take]
          have : (asked r o).length = 6 := rfl
          omega
        · intro c o hc
          rw [upd_ne (ne_of_none hc nD)]
          exact sm c o hc
        · rw [upd_same, e1, List.filter_append, List.map_append, List.map_append, List.filter_cons_of_pos (by simpa using hb)]
          rfl
      | false =>
        refine iteF ⟨sm, ?_⟩
        rw [e1, List.filter_append, List.filter_cons_of_neg (by rw [hb]; exact Bool.false_ne_true), List.filter_nil, List.append_nil]
        exact hD
    rintro H2 ⟨s2, hD⟩
    rw [List.length_map, prl, List.take_length] at hD
    refine ⟨D, _, rfl, .inl ⟨SqL.of hD, fun pc npc => ?_⟩⟩
    have s3 : Same H (upd H2 pc (.tup ((clausesOf r o).map V.str))) := s1.trans (s2.trans (same_upd npc))
    have e3 : upd H2 pc (.tup ((clausesOf r o).map V.str)) pc = some (.tup ((clausesOf r o).map V.str)) := upd_same
    have ec : ((((asked r o).filter fun p => p.2).map fun p => p.1).map V.str) = (clausesOf r o).map V.str := rfl
    rw [ec]
    generalize upd H2 pc (HO.tup ((clausesOf r o).map V.str)) = H3 at s3 e3 ⊢
    refine ⟨_, rfl, _, .inr (.inl ⟨_, SqT.of e3, rfl⟩), ?_⟩
    cases hk : (!((clausesOf r o).map V.str).isEmpty) with
    | true => exact iteT (iteT ⟨_, rfl, q H3 pc s3 e3⟩)
    | false =>
      refine iteF ⟨_, rfl, a, r, rfl, (ra.same s3).1, ra.2.2.1, fun H4 p4 s4 e4 => ⟨p4, _, rfl, .inr (SqT.of e4), _, _, rfl, rfl, _, rfl, ?_⟩⟩
      rw [List.length_map]
      refine ite2 (fun _ => ⟨_, rfl, q H4 pc (s3.trans s4) (s4 _ _ e3)⟩) (fun z => ?_)
      exact absurd (decide_eq_true (by omega)) z
end
end K15

namespace K15
open PySem PySem.Spec PyProof.Rows L2 MG
abbrev sDeed : Stmt := topS 30
abbrev nDeed : List Str := ["_law_row_here", "_law_i", "_law_j", "_law_found"]
theorem scDeed : FnScope ["_law_row_here", "_law_i", "_law_j", "_law_found"] ["_law_row_here", "_law_i", "_law_j"] (defScope sDeed) := ⟨rfl, rfl, rfl, by decide +kernel, rfl, by decide +kernel, by decide +kernel⟩
abbrev sNext : Stmt := topS 31
abbrev nNext : List Str := ["_law_row_here", "_law_found", "_law_i", "_law_j"]
theorem scNext : FnScope ["_law_row_here", "_law_found", "_law_i", "_law_j"] ["_law_row_here"] (defScope sNext) := ⟨rfl, rfl, rfl, by decide +kernel, rfl, by decide +kernel, by decide +kernel⟩
section
variable {P : Program} {w : World} {K : PySem.W.Frag} {mg : Str → Option Value} {base : Heap}
def spDeedL : Sp := fun vs H Q _ => ∃ (a : Addr) (ns : List Int) (i j : Nat), vs = [.ref a, .int i, .int j] ∧ H a = some (.tup (ns.map V.int)) ∧ (∀ n ∈ ns, 0 ≤ n) ∧ ns.length ≤ 40 ∧ i < ns.length ∧ j < ns.length ∧
  (∀ p H', Same H H' → H p = none → H' p = some (.lst []) → ¬ MayG ns i j → Q (.ref p) H') ∧
  (∀ p t H', Same H H' → H p = none → H t = none → H' p = some (.lst [.ref t]) → H' t = some (.tup ((deed ns i j).map V.int)) → MayG ns i j → Q (.ref p) H')
theorem ok_deedL {f : Addr} {fd : FuncData} {k : Nat} (F : Fun K "_law_deed" "_law_deed" sDeed f fd) (m_list : mg "list" = none) (m_tuple : mg "tuple" = none) :
    FnOk P w K mg base CX0 (k + 1) f fd ["_law_row_here", "_law_i", "_law_j"] spDeedL := by
  refine F.ok scDeed (fun vs H Q E h => ?_) (fun cdv A outer s H vs Q E hr h => ?_)
  · obtain ⟨a, ns, i, j, rfl, _⟩ := h
    rfl
  · obtain ⟨a, ns, i, j, rfl, r, nn, hl, hi, hj, q0, q1⟩ := h
    refine ⟨_, pss_cons (ps_if (PW.pt (pw_or (pt_cmpR op_eq (pv 1) (pv 2) (nomark _)) (pw_or (pt_cmpR op_lt (pe_ix ix_tup (pv 0) (pv 1) (fun _ _ => rfl)) (pe_ix ix_tup (pv 0) (pv 2) (fun _ _ => rfl)) (nomark _)) (pw_or1 (pt_cmpR op_eq (pe_ix ix_tup (pv 0) (pv 2) (fun _ _ => rfl)) pe_int (nomark _)))))) (pss_one (ps_ret (pe_lst pa_nil))) pss_nil)
      (pss_cons (ps_set (i := 3) scDeed.nd rfl (.inl rfl) (pe_callTy call_list_of (by rfl) m_list (by decide +kernel) (pa_cons (pv 0) pa_nil)))
      (pss_cons (ps_asg (pe_tup (pa_cons (pe_op op_sub (pe_ix ix_tup (pv 0) (pv 1) (fun _ _ => rfl)) (pe_ix ix_tup (pv 0) (pv 2) (fun _ _ => rfl))) (pa_cons (pe_op op_mul pe_int (pe_ix ix_tup (pv 0) (pv 2) (fun _ _ => rfl))) pa_nil))) (pg_tup rfl (pgs_cons (pg_sub (pv 3) (pv 1) set_list) (pgs_cons (pg_sub (pv 3) (pv 2) set_list) pgs_nil))))
      (pss_one (ps_ret (pe_lst (pa_cons (pe_callTy call_tuple_of (by rfl) m_tuple (by decide +kernel) (pa_cons (pv 3) pa_nil)) pa_nil)))))), ?_⟩
    have hS : SqT K H a (ns.map V.int) := SqT.of r
    refine ⟨_, rfl, _, rfl, rfl, _, rfl, ?_⟩
    rw [decI]
    by_cases hij : (i : Int) = j
    · rw [decide_eq_true hij]
      exact iteT (iteT ⟨by show 0 ≤ sizeLine; decide, fun p np => q0 p _ (same_upd np) np upd_same fun m => m.ne (by omega)⟩)
    rw [decide_eq_false hij]
    refine iteF ⟨_, rfl, _, rfl, a, _, (i : Int), .int (ns.getD i 0), rfl, rfl, hS, atI_nat (getD_at hi), _, rfl, _, rfl, a, _, (j : Int), .int (ns.getD j 0), rfl, rfl, hS, atI_nat (getD_at hj), _, _, rfl, rfl, _, rfl, ?_⟩
    by_cases hlt : ns.getD i 0 < ns.getD j 0
    · rw [decide_eq_true hlt]
      exact iteT (iteT ⟨by show 0 ≤ sizeLine; decide, fun p np => q0 p _ (same_upd np) np upd_same fun m => by have := m.ge; omega⟩)
    rw [decide_eq_false hlt]
    refine iteF ⟨_, rfl, _, rfl, a, _, (j : Int), .int (ns.getD j 0), rfl, rfl, hS, atI_nat (getD_at hj), rfl, _, rfl, ?_⟩
    rw [decI]
    by_cases hz : ns.getD j 0 = 0
    · rw [decide_eq_true hz]
      exact iteT ⟨by show 0 ≤ sizeLine; decide, fun p np => q0 p _ (same_upd np) np upd_same fun m => by have := m.pj; omega⟩
    rw [decide_eq_false hz]
    have hpj : 0 < ns.getD j 0 := by
      have := nn _ (MG.getD_mem hj)
      omega
    have m : MayG ns i j := ⟨hi, hj, fun z => hij (by rw [z]), hpj, by omega⟩
    refine iteF ⟨_, rfl, a, ns.map V.int, rfl, .inr hS, fun l nl => ?_⟩
    have s1 : Same H (upd H l (.lst (ns.map V.int))) := same_upd nl
    have e1 : upd H l (.lst (ns.map V.int)) l = some (.lst (ns.map V.int)) := upd_same
    generalize upd H l (HO.lst (ns.map V.int)) = H1 at s1 e1 ⊢
    have hS1 : SqT K H1 a (ns.map V.int) := SqT.of (s1 _ _ r)
    refine ⟨.ref a, rfl, _, rfl, a, _, (i : Int), .int (ns.getD i 0), rfl, rfl, hS1, atI_nat (getD_at hi), .ref a, rfl, _, rfl, a, _, (j : Int), .int (ns.getD j 0), rfl, rfl, hS1, atI_nat (getD_at hj), _, _, rfl, rfl,
      .ref a, rfl, _, rfl, a, _, (j : Int), .int (ns.getD j 0), rfl, rfl, hS1, atI_nat (getD_at hj), 2, _, rfl, rfl, .inl ⟨by decide, by decide⟩, by show 2 ≤ sizeLine; decide, fun tp ntp => ?_⟩
    have e1' : upd H1 tp (.tup [.int (ns.getD i 0 - ns.getD j 0), .int (2 * ns.getD j 0)]) l = some (.lst (ns.map V.int)) := same_upd ntp _ _ e1
    have s2 : Same H (upd H1 tp (.tup [.int (ns.getD i 0 - ns.getD j 0), .int (2 * ns.getD j 0)])) := s1.trans (same_upd ntp)
    refine ⟨tp, _, rfl, SqT.of upd_same, rfl, .int (ns.getD i 0 - ns.getD j 0), [.int (2 * ns.getD j 0)], rfl, _, rfl, _, rfl, l, _, (i : Int), i, rfl, rfl, e1', ixN_nat (by rw [List.length_map]; exact hi), .int (2 * ns.getD j 0), [], rfl, _, rfl, _, rfl, l, _, (j : Int), j, rfl, rfl, upd_same, ixN_nat (by rw [List.length_set, List.length_map]; exact hj), rfl, ?_⟩
    generalize upd H1 tp (HO.tup [.int (ns.getD i 0 - ns.getD j 0), .int (2 * ns.getD j 0)]) = H2 at e1' s2 ⊢
    rw [← List.map_set, ← List.map_set]
    have ed : (ns.set i (ns.getD i 0 - ns.getD j 0)).set j (2 * ns.getD j 0) = deed ns i j := rfl
    rw [ed]
    have s3 : Same H (upd (upd H2 l (.lst ((ns.set i (ns.getD i 0 - ns.getD j 0)).map V.int))) l (.lst ((deed ns i j).map V.int))) := fun c o hc => by rw [upd_ne (ne_of_none hc nl), upd_ne (ne_of_none hc nl)]; exact s2 c o hc
    have e3 : upd (upd H2 l (.lst ((ns.set i (ns.getD i 0 - ns.getD j 0)).map V.int))) l (.lst ((deed ns i j).map V.int)) l = some (.lst ((deed ns i j).map V.int)) := upd_same
    generalize upd (upd H2 l (HO.lst ((ns.set i (ns.getD i 0 - ns.getD j 0)).map V.int))) l (HO.lst ((deed ns i j).map V.int)) = H3 at s3 e3 ⊢
    refine ⟨_, rfl, l, _, rfl, .inl ⟨SqL.of e3, fun t nt => ⟨by show 1 ≤ sizeLine; decide, fun p np => ?_⟩⟩⟩
    have s4 := s3.trans (same_upd nt (o := .tup ((deed ns i j).map V.int)))
    exact q1 p t _ (s4.trans (same_upd np)) (s4.free np) (s3.free nt) upd_same (same_upd np _ _ upd_same) m
/-- rows one deed on: ts in H -/
def Nx (H : Hp) (ns : List Int) (ts : List Addr) : Prop := ∀ t ∈ ts, ∃ i j, MayG ns i j ∧ H t = some (.tup ((deed ns i j).map V.int))
theorem Nx.mono {H H' : Hp} {ns : List Int} {ts : List Addr} (h : Nx H ns ts) (s : ∀ a xs, H a = some (.tup xs) → H' a = some (.tup xs)) : Nx H' ns ts := fun t ht => by
  obtain ⟨i, j, m, e⟩ := h t ht
  exact ⟨i, j, m, s _ _ e⟩
def spNext : Sp := fun vs H Q _ => ∃ (a : Addr) (ns : List Int), vs = [.ref a] ∧ H a = some (.tup (ns.map V.int)) ∧ (∀ n ∈ ns, 0 ≤ n) ∧ ns.length ≤ 30 ∧
  ∀ p ts H', Same H H' → H p = none → H' p = some (.lst (ts.map V.ref)) → ts.length ≤ 900 → Nx H' ns ts → Q (.ref p) H'
theorem ok_next {f fJ : Addr} {fd fdJ : FuncData} {k : Nat} (F : Fun K "_law_next" "_law_next" sNext f fd)
    (FJ : Fun K "_law_deed" "_law_deed" sDeed fJ fdJ) (bJ : Binds K fdJ ["_law_row_here", "_law_i", "_law_j"] []) (gJ : mg "_law_deed" = some (.ref fJ)) (GJ : FnOk P w K mg base CX0 (k + 1) fJ fdJ ["_law_row_here", "_law_i", "_law_j"] spDeedL)
    (m_len : mg "len" = none) (m_range : mg "range" = none) : FnOk P w K mg base CX0 (k + 2) f fd ["_law_row_here"] spNext := by
  refine F.ok scNext (fun vs H Q E h => ?_) (fun cdv A outer s H vs Q E hr h => ?_)
  · obtain ⟨a, ns, rfl, _⟩ := h
    rfl
  · obtain ⟨a, ns, rfl, r, nn, hl, q⟩ := h
    have hr1 := hr
    refine ⟨_, pss_cons (ps_set (i := 1) scNext.nd rfl (.inl rfl) (pe_lst pa_nil))
      (pss_cons (ps_for PassesOwn.never rfl (pi_range1 (by rfl) m_range (pa_cons (pe_callB call_len_seq (by rfl) m_len PySem.boot_len (pa_cons (pv 0) pa_nil)) pa_nil)) (pg_name (i := 2) scNext.nd rfl (.inl rfl)) (pss_one (ps_for PassesOwn.never rfl (pi_range1 (by rfl) m_range (pa_cons (pe_callB call_len_seq (by rfl) m_len PySem.boot_len (pa_cons (pv 0) pa_nil)) pa_nil)) (pg_name (i := 3) scNext.nd rfl (.inl rfl)) (pss_one (ps_expr (pe_bm PySem.F.plainAttrs_list PySem.F.slot_list_extend PySem.F.type_list_extend mt_extend (pv 1) (pa_cons (pe_call GJ hr1 (by rfl) gJ FJ.kp bJ .nil pass0 (pa_cons (pv 0) (pa_cons (pv 2) (pa_cons (pv 3) pa_nil)))) pa_nil)))))))
      (pss_one (ps_ret (pv 1)))), ?_⟩
    refine ⟨by show 0 ≤ sizeLine; decide, fun fo nfo => ?_⟩
    have s1 : Same H (upd H fo (.lst [])) := same_upd nfo
    have e1 : upd H fo (.lst []) fo = some (.lst []) := upd_same
    generalize upd H fo (HO.lst []) = H1 at s1 e1 ⊢
    refine ⟨_, rfl, a, _, rfl, .inr (SqT.of (s1 _ _ r)), _, rfl, by omega, by rw [List.length_map]; omega, ?_⟩
    refine for_range (lo := 0) (n := ((ns.map V.int).length : Int).toNat) (fun i σ G => ∃ (y2 y3 : Option V) (ts : List Addr), σ = [some (.ref a), some (.ref fo), y2, y3] ∧ Same H G ∧ G fo = some (.lst (ts.map V.ref)) ∧ ts.length ≤ i * ns.length ∧ Nx G ns ts) ?_ ?_ ?_
    · exact ⟨_, _, [], rfl, s1, e1, Nat.zero_le _, fun t ht => absurd ht List.not_mem_nil⟩
    · rintro i σ G hi ⟨y2, y3, ts, rfl, sm, ef, tl, nx⟩
      have hi' : i < ns.length := by rw [List.length_map] at hi; omega
      refine ⟨_, rfl, a, _, rfl, .inr (SqT.of (sm _ _ r)), _, rfl, by omega, by rw [List.length_map]; omega, ?_⟩
      refine for_range (lo := 0) (n := ((ns.map V.int).length : Int).toNat) (fun j σ G => ∃ (y3 : Option V) (ts : List Addr), σ = [some (.ref a), some (.ref fo), some (.int (0 + (i : Int))), y3] ∧ Same H G ∧ G fo = some (.lst (ts.map V.ref)) ∧ ts.length ≤ i * ns.length + j ∧ Nx G ns ts) ?_ ?_ ?_
      · exact ⟨_, ts, rfl, sm, ef, tl, nx⟩
      · rintro j σ G hj ⟨y3, ts, rfl, sm, ef, tl, nx⟩
        have hj' : j < ns.length := by rw [List.length_map] at hj; omega
        have tl2 : ts.length + 1 ≤ 900 := by
          have h1 : (i + 1) * ns.length ≤ 30 * 30 := Nat.mul_le_mul (by omega) hl
          rw [Nat.add_mul, Nat.one_mul] at h1
          omega
        refine ⟨_, rfl, .inl ⟨rfl, _, SqL.of ef⟩, _, rfl, _, rfl, _, rfl, a, ns, i, j, by rw [Int.zero_add, Int.zero_add]; rfl, sm _ _ r, nn, by omega, hi', hj', fun p H' s' np ep _ => ?_, fun p t H' s' np nt ep et m => ?_⟩
        · refine ⟨fo, p, _, _, rfl, rfl, s' _ _ ef, ep, by rw [List.length_map]; show ts.length + 0 ≤ sizeLine; rw [sizeLine_eq]; omega, ?_⟩
          refine ⟨_, ts, rfl, fun c o hc => by rw [upd_ne (ne_of_none hc nfo)]; exact s' _ _ (sm c o hc), by rw [upd_same, List.append_nil], by omega, (nx.mono fun c xs hc => ?_)⟩
          rw [upd_ne (fun z => by rw [z, ef] at hc; cases hc)]
          exact s' _ _ hc
        · refine ⟨fo, p, _, _, rfl, rfl, s' _ _ ef, ep, by rw [List.length_map]; show ts.length + 1 ≤ sizeLine; rw [sizeLine_eq]; omega, ?_⟩
          refine ⟨_, ts ++ [t], rfl, fun c o hc => by rw [upd_ne (ne_of_none hc nfo)]; exact s' _ _ (sm c o hc), by rw [upd_same, List.map_append]; rfl, by rw [List.length_append]; show ts.length + 1 ≤ _; omega, fun u hu => ?_⟩
          rcases List.mem_append.mp hu with hu | hu
          · obtain ⟨i1, j1, m1, e1⟩ := nx u hu
            refine ⟨i1, j1, m1, ?_⟩
            rw [upd_ne (fun z => by rw [z, ef] at e1; cases e1)]
            exact s' _ _ e1
          · rw [List.mem_singleton.mp hu]
            refine ⟨i, j, m, ?_⟩
            rw [upd_ne (fun z => by rw [z, s' _ _ ef] at et; cases et)]
            exact et
      · rintro σ G ⟨y3, ts, rfl, sm, ef, tl, nx⟩
        rw [show ((ns.map V.int).length : Int).toNat = ns.length by rw [List.length_map]; exact Int.toNat_natCast _] at tl
        exact ⟨_, _, ts, rfl, sm, ef, by rw [Nat.add_mul, Nat.one_mul]; exact tl, nx⟩
    · rintro σ G ⟨y2, y3, ts, rfl, sm, ef, tl, nx⟩
      rw [show ((ns.map V.int).length : Int).toNat = ns.length by rw [List.length_map]; exact Int.toNat_natCast _] at tl
      exact ⟨_, rfl, q fo ts G sm nfo ef (Nat.le_trans tl (Nat.mul_le_mul hl hl)) nx⟩
end
end K15

namespace K15
open PySem PySem.Spec PyProof.Rows L2 MG
abbrev sComes : Stmt := topS 22
theorem scComes : FnScope ["row", "other"] ["row", "other"] (defScope sComes) := ⟨rfl, rfl, rfl, by decide +kernel, rfl, by decide +kernel, by decide +kernel⟩
abbrev sDue : Stmt := topS 34
abbrev nDue : List Str := ["_law_row_here", "_law_other", "_law_one", "_law_two", "_law_amount", "_law_alike", "_law_some", "_law_found", "_law_more", "_law_word", "_law_is_so", "_law_words"]
theorem scDue : FnScope ["_law_row_here", "_law_other", "_law_one", "_law_two", "_law_amount", "_law_alike", "_law_some", "_law_found", "_law_more", "_law_word", "_law_is_so", "_law_words"] ["_law_row_here", "_law_other"] (defScope sDue) := ⟨rfl, rfl, rfl, by decide +kernel, rfl, by decide +kernel, by decide +kernel⟩
def q4 (ns : List Int) : List Int := [ns.sum, ((gl ns : Nat) : Int) / 2 ^ v2 (gl ns), ((v2 (gl ns) : Nat) : Int), (((fewT (v2 (gl ns)) ns).length : Nat) : Int)]
section
variable {P : Program} {w : World} {K : PySem.W.Frag} {mg : Str → Option Value} {base : Heap}
def spComes : Sp := fun vs H Q _ => ∃ a b r o, vs = [.ref a, .ref b] ∧ Row H a r ∧ Row H b o ∧ (r = o ∨ 3 ≤ (hold r r.length).length) ∧ ∀ H', Same H H' → Q (.bl (decide (brkT r o = []))) H'
theorem ok_comes {f fK : Addr} {fd fdK : FuncData} {k : Nat} (F : Fun K "comes" "comes" sComes f fd)
    (FK : Fun K "broken" "broken" sBroken fK fdK) (bK : Binds K fdK ["row", "other"] []) (gK : mg "broken" = some (.ref fK)) (GK : FnOk P w K mg base CX0 (k + 6) fK fdK ["row", "other"] spBroken) :
    FnOk P w K mg base CX0 (k + 7) f fd ["row", "other"] spComes := by
  refine F.ok scComes (fun vs H Q E h => ?_) (fun cdv A outer s H vs Q E hr h => ?_)
  · obtain ⟨a, b, r, o, rfl, _⟩ := h
    rfl
  · obtain ⟨a, b, r, o, rfl, ra, rb, h3, q⟩ := h
    have hr6 := hr
    refine ⟨_, pss_one (ps_ret (pe_cmpR (op_eqD hr.units) (pe_call GK hr6 (by rfl) gK FK.kp bK .nil pass0 (pa_cons (pv 0) (pa_cons (pv 1) pa_nil))) (pe_tup pa_nil) (nomark _))), ?_⟩
    refine ⟨_, rfl, _, rfl, a, b, r, o, rfl, ra, rb, h3, fun G p s1 e1 => ⟨by show 0 ≤ sizeLine; decide, fun e0 n0 => ?_⟩⟩
    have s2 : Same G (upd G e0 (.tup [])) := same_upd n0
    refine ⟨.tuple ((brkT r o).map PyData.str), .tuple (([] : List Str).map PyData.str), .tup (SqT.of (s2 _ _ e1)) (dpStrsG _), .tup (SqT.of upd_same) .nil, shapedT_strs _ (brk_layG r o), rfl, ?_⟩
    rw [eqv_strs]
    exact q _ (s1.trans s2)
def spDue : Sp := fun vs H Q _ => ∃ a b r o, vs = [.ref a, .ref b] ∧ Row H a r ∧ Row H b o ∧ (r = o ∨ 3 ≤ (hold r r.length).length) ∧ ∀ H' p, Same H H' → H' p = some (.tup ((brkT r o).map V.str)) → Q (.ref p) H'
theorem ok_due {f fY : Addr} {fd fdY : FuncData} {k : Nat} (F : Fun K "_law_due" "_law_due" sDue f fd)
    (FY : Fun K "_law_stays" "_law_stays" sStays fY fdY) (bY : Binds K fdY ["_law_row_here"] []) (gY : mg "_law_stays" = some (.ref fY)) (GY : FnOk P w K mg base CX0 (k + 1) fY fdY ["_law_row_here"] spStays)
    (m_len : mg "len" = none) (m_any : mg "any" = none) (m_zip : mg "zip" = none) (m_tuple : mg "tuple" = none) : FnOk P w K mg base CX0 (k + 2) f fd ["_law_row_here", "_law_other"] spDue := by
  refine F.ok scDue (fun vs H Q E h => ?_) (fun cdv A outer s H vs Q E hr h => ?_)
  · obtain ⟨a, b, r, o, rfl, _⟩ := h
    rfl
  · obtain ⟨a, b, r, o, rfl, ra, rb, h3, q⟩ := h
    have hr1 := hr
    have h40 := ra.2.2.1
    have hb40 := rb.2.2.1
    refine ⟨_, pss_cons (ps_if (pt_cmpR (op_eqD hr.units) (pv 0) (pv 1) (nomark _)) (pss_one (ps_ret (pe_tup pa_nil))) pss_nil)
      (pss_cons (ps_if (pt_cmpR op_ne (pe_callB call_len_seq (by rfl) m_len PySem.boot_len (pa_cons (pv 0) pa_nil)) (pe_callB call_len_seq (by rfl) m_len PySem.boot_len (pa_cons (pv 1) pa_nil)) (nomark _)) (pss_one (ps_ret (pe_tup (pa_cons pe_str pa_nil)))) pss_nil)
      (pss_cons (ps_par (i := 2) (j := 3) rfl scDue.nd rfl rfl (by decide) rfl rfl (pa_cons (pe_call GY hr1 (by rfl) gY FY.kp bY .nil pass0 (pa_cons (pv 0) pa_nil)) (pa_cons (pe_call GY hr1 (by rfl) gY FY.kp bY .nil pass0 (pa_cons (pv 1) pa_nil)) pa_nil)) (by rfl))
      (pss_cons (ps_par (i := 5) (j := 6) rfl scDue.nd rfl rfl (by decide) rfl rfl (pa_cons (pe_cmpR op_eq (pe_ix ix_tup (pv 2) pe_int (fun _ _ => rfl)) (pe_ix ix_tup (pv 3) pe_int (fun _ _ => rfl)) (nomark _)) (pa_cons (pe_callB call_len_seq (by rfl) m_len PySem.boot_len (pa_cons (pe_lc (own := [("_law_amount", 4)]) (g := gName 4) rfl scDue.nd (pi_tup (pv 1)) (blkOk_by (N := nDue) (sc := defScope sDue) (by decide +kernel)) (fun _ _ _ _ _ => pg_name (i := 4) scDue.nd rfl (Or.inl rfl)) (fun _ _ _ _ _ => pts_one (pt_cmpR op_gt (pv 4) pe_int (nomark _))) (fun _ _ _ _ _ => pv 4)) pa_nil)) pa_nil)) (by rfl))
      (pss_cons (ps_set (i := 7) scDue.nd rfl (.inl rfl) (pe_lst (pa_cons (pe_tup (pa_cons pe_str (pa_cons (pe_cmpR op_ne (pe_ix ix_tup (pv 2) pe_int (fun _ _ => rfl)) (pe_ix ix_tup (pv 3) pe_int (fun _ _ => rfl)) (nomark _)) pa_nil))) pa_nil)))
      (pss_cons (ps_expr (pe_bm PySem.F.plainAttrs_list PySem.F.slot_list_append PySem.F.type_list_append mt_append (pv 7) (pa_cons (pe_tup (pa_cons pe_str (pa_cons (pe_callB (cr_any rfl) (by rfl) m_any (by decide +kernel) (pa_cons (pe_lc (own := [("_law_amount", 4), ("_law_more", 8)]) (g := gTup K 2 (gCons (gName 4) (gCons (gName 8) gNil))) (tt := tYes) rfl scDue.nd (RZ.pi_zipA (by rfl) m_zip (pa_cons (pv 0) (pa_cons (pv 1) pa_nil))) (blkOk_by (N := nDue) (sc := defScope sDue) (by decide +kernel)) (fun _ _ _ _ _ => pg_tup rfl (pgs_cons (pg_name (i := 4) scDue.nd rfl (.inl rfl) (.inr rfl)) (pgs_cons (pg_name (i := 8) scDue.nd rfl (.inl rfl) (.inr rfl)) pgs_nil))) (fun _ _ _ _ _ => pts_nil) (fun _ _ _ _ _ => (pe_and (pe_cmpR op_gt (pv 8) pe_int (nomark _)) (pe_one (pe_cmpR op_eq (pv 4) pe_int (nomark _)))))) pa_nil)) pa_nil))) pa_nil)))
      (pss_cons (ps_set (i := 7) scDue.nd rfl (.inl rfl) (pe_op op_cat (pv 7) (pe_lst (pa_cons (pe_tup (pa_cons pe_str (pa_cons (pe_cmpR op_ne (pe_ix ix_tup (pv 2) pe_int (fun _ _ => rfl)) (pe_ix ix_tup (pv 3) pe_int (fun _ _ => rfl)) (nomark _)) pa_nil))) (pa_cons (pe_tup (pa_cons pe_str (pa_cons (pe_cmpR op_lt (pe_ix ix_tup (pv 3) pe_int (fun _ _ => rfl)) (pe_ix ix_tup (pv 2) pe_int (fun _ _ => rfl)) (nomark _)) pa_nil))) pa_nil)))))
      (pss_mid (ps_set (i := 7) scDue.nd rfl (.inl rfl) (pe_op op_cat (pv 7) (pe_lst (pa_cons (pe_tup (pa_cons pe_str (pa_cons (pe_and (pv 5) (pe_one (pe_cmpR op_gt (pe_ix ix_tup (pv 3) pe_int (fun _ _ => rfl)) (pe_ix ix_tup (pv 2) pe_int (fun _ _ => rfl)) (nomark _)))) pa_nil))) (pa_cons (pe_tup (pa_cons pe_str (pa_cons (pe_and (pv 5) (pe_one (pe_cmpR op_eq (pe_ix ix_tup (pv 3) pe_int (fun _ _ => rfl)) (pv 6) (nomark _)))) pa_nil))) pa_nil)))))
      (pss_cons (ps_setLc (i := 11) (own := [("_law_word", 9), ("_law_is_so", 10)]) (g := gTup K 2 (gCons (gName 9) (gCons (gName 10) gNil))) rfl scDue.nd rfl rfl (sw_true rfl rfl rfl (by decide +kernel)) (pi_list (pv 7)) (blkOk_by (N := nDue) (sc := defScope sDue) (by decide +kernel)) (fun _ _ _ _ _ => pg_tup rfl (pgs_cons (pg_name (i := 9) scDue.nd rfl (.inl rfl) (.inr rfl)) (pgs_cons (pg_name (i := 10) scDue.nd rfl (.inl rfl) (.inr rfl)) pgs_nil))) (fun _ _ _ _ _ => pts_one (pt_val (pv 10))) (fun _ _ _ _ _ => pv 9))
      (pss_mid (ps_if (PW.pt (pw_and (pt_cmpR (op_eqD hr.units) (pv 11) (pe_lst pa_nil) (nomark _)) (pw_and (pt_cmpR op_lt (pe_callB call_len_seq (by rfl) m_len PySem.boot_len (pa_cons (pe_lc (own := [("_law_amount", 4)]) (g := gName 4) rfl scDue.nd (pi_tup (pv 0)) (blkOk_by (N := nDue) (sc := defScope sDue) (by decide +kernel)) (fun _ _ _ _ _ => pg_name (i := 4) scDue.nd rfl (Or.inl rfl)) (fun _ _ _ _ _ => pts_one (pt_cmpR op_gt (pv 4) pe_int (nomark _))) (fun _ _ _ _ _ => pv 4)) pa_nil)) pe_int (nomark _)) (pw_and1 (pt_never))))) (pss_one (ps_set (i := 11) scDue.nd rfl (.inl rfl) (pe_lst (pa_cons pe_str pa_nil)))) pss_nil)
      (pss_one (ps_ret (pe_callTy call_tuple_of (by rfl) m_tuple (by decide +kernel) (pa_cons (pv 11) pa_nil))))))))))))), ?_⟩
    refine ⟨_, rfl, _, rfl, _, _, .tup (SqT.of ra.1) (dpIntsG r), .tup (SqT.of rb.1) (dpIntsG o), shapedT_ints r, shapedT_ints o, _, rfl, ?_⟩
    rw [eqv_rows]
    unfold brkT at q
    refine ite2 (fun he => ?_) (fun he => ?_)
    · rw [if_pos (of_decide_eq_true he)] at q
      exact ⟨by show 0 ≤ sizeLine; decide, fun p np => q _ p (same_upd np) upd_same⟩
    have he' : ¬ r = o := fun z => he (decide_eq_true z)
    have h3 := h3.resolve_left he'
    rw [if_neg he'] at q
    refine ⟨_, rfl, a, _, rfl, .inr (SqT.of ra.1), _, rfl, b, _, rfl, .inr (SqT.of rb.1), rfl, _, rfl, ?_⟩
    rw [List.length_map, List.length_map, decI, notD]
    refine ite2 (fun hn => ?_) (fun hn => ?_)
    · have hn' : r.length ≠ o.length := fun z => of_decide_eq_true hn (by omega)
      rw [if_pos hn'] at q
      exact ⟨by show 1 ≤ sizeLine; decide, fun p np => q _ p (same_upd np) upd_same⟩
    have hl : r.length = o.length := by
      have : ((r.length : Nat) : Int) = (o.length : Nat) := Decidable.of_not_not fun z => hn (decide_eq_true z)
      omega
    rw [if_neg (fun z => z hl)] at q
    refine ⟨_, rfl, a, r, rfl, ra, fun pm G1 z1 e1 => ⟨_, rfl, b, o, rfl, rb.same z1, fun pi G2 z2 e2 => ⟨_, _, rfl, ?_⟩⟩⟩
    have z12 := z1.trans z2
    have epm : G2 pm = some (.tup ((q4 r).map V.int)) := z2 _ _ e1
    have epi : G2 pi = some (.tup ((q4 o).map V.int)) := e2
    refine ⟨_, rfl, pm, _, 2, .int (v2 (gl r) : Nat), rfl, rfl, SqT.of epm, atI_nat (j := 2) rfl, _, rfl, pi, _, 2, .int (v2 (gl o) : Nat), rfl, rfl, SqT.of epi, atI_nat (j := 2) rfl, rfl, ?_⟩
    refine ⟨_, rfl, b, rfl, ⟨_, SqT.of (z12 _ _ rb.1)⟩, fun D0 nD0 => ?_⟩
    refine cntW (i := 4) (by show 4 < 12; decide) (z12 _ _ rb.1) (by omega) nD0 (fun G3 z3 hD0 => ?_)
    refine ⟨D0, _, rfl, .inl (SqL.of hD0), _, _, rfl, ?_⟩
    rw [List.length_map, decI]
    have ealike : decide (((v2 (gl r) : Nat) : Int) = ((v2 (gl o) : Nat) : Int)) = decide (v2 (gl o) = v2 (gl r)) := by
      by_cases z : v2 (gl o) = v2 (gl r)
      · rw [decide_eq_true z, decide_eq_true (by omega)]
      · rw [decide_eq_false z, decide_eq_false (by omega)]
    rw [ealike]
    have eoc : (o.filter fun n => decide (0 < n)).length = (hold o o.length).length := cnt_hold o
    rw [eoc]
    have epm := z3 _ _ epm
    have epi := z3 _ _ epi
    have z13 := z12.trans z3
    generalize hAl : decide (v2 (gl o) = v2 (gl r)) = al
    -- found = [('sum', ..)]
    refine ⟨_, rfl, pm, _, 0, .int r.sum, rfl, rfl, SqT.of epm, atI_nat (j := 0) rfl, _, rfl, pi, _, 0, .int o.sum, rfl, rfl, SqT.of epi, atI_nat (j := 0) rfl, rfl, by show 2 ≤ sizeLine; decide, fun t1 n1 => ⟨by show 1 ≤ sizeLine; decide, fun fo nfo => ?_⟩⟩
    have c1 : (!decide (V.int r.sum = V.int o.sum)) = decide (o.sum ≠ r.sum) := by
      rw [decI]
      by_cases z : r.sum = o.sum
      · simp [z]
      · simp [z, Ne.symm z]
    generalize hb1 : (!decide (V.int r.sum = V.int o.sum)) = b1 at nfo c1 ⊢
    have y1 : Same G3 (upd G3 t1 (.tup [.str "sum", .bl b1])) := same_upd n1
    have w1 : upd G3 t1 (.tup [.str "sum", .bl b1]) t1 = some (.tup [.str "sum", .bl b1]) := upd_same
    generalize upd G3 t1 (HO.tup [.str "sum", .bl b1]) = G4 at y1 w1 nfo ⊢
    have y2 : Same G4 (upd G4 fo (.lst [.ref t1])) := same_upd nfo
    have w2 : upd G4 fo (.lst [.ref t1]) fo = some (.lst [.ref t1]) := upd_same
    have nfoG : ∀ {c o}, G4 c = some o → c ≠ fo := fun hc => ne_of_none hc nfo
    generalize upd G4 fo (HO.lst [.ref t1]) = G5 at y2 w2 ⊢
    have y35 := y1.trans y2
    have z15 := z13.trans y35
    -- found.append(('nothing', ..))
    refine ⟨_, rfl, .inl ⟨rfl, _, SqL.of w2⟩, ?_⟩
    refine hfnR (i := 4) (j := 8) rfl rfl (by decide) (by show 4 < 12; decide) (by show 8 < 12; decide) (z15 _ _ ra.1) (z15 _ _ rb.1) hl (by omega) (fun G6 y6 => ⟨by show 2 ≤ sizeLine; decide, fun t2 n2 => ?_⟩)
    have y7 : Same G5 (upd G6 t2 (.tup [.str "nothing", .bl (hfn r o)])) := y6.trans (same_upd n2)
    have w7 : upd G6 t2 (.tup [.str "nothing", .bl (hfn r o)]) t2 = some (.tup [.str "nothing", .bl (hfn r o)]) := upd_same
    generalize upd G6 t2 (HO.tup [.str "nothing", .bl (hfn r o)]) = G7 at y7 w7 ⊢
    have n2fo : t2 ≠ fo := fun z => by
      rw [z, y7 _ _ w2] at w7
      cases w7
    refine ⟨fo, _, _, rfl, rfl, y7 _ _ w2, by show 1 < sizeLine; decide, ?_⟩
    have y8 : ∀ {c o}, G4 c = some o → upd G7 fo (.lst ([.ref t1] ++ [.ref t2])) c = some o := fun hc => by
      rw [upd_ne (nfoG hc)]
      exact y7 _ _ (y2 _ _ hc)
    have w8 : upd G7 fo (.lst ([.ref t1] ++ [.ref t2])) fo = some (.lst [.ref t1, .ref t2]) := upd_same
    have w8b : upd G7 fo (.lst ([.ref t1] ++ [.ref t2])) t2 = some (.tup [.str "nothing", .bl (hfn r o)]) := by
      rw [upd_ne n2fo]; exact w7
    generalize upd G7 fo (HO.lst ([.ref t1] ++ [.ref t2])) = G8 at y8 w8 w8b ⊢
    -- found + [measure, twos]
    refine ⟨_, rfl, _, rfl, pm, _, 1, .int (ms r), rfl, rfl, SqT.of (y8 (y1 _ _ epm)), atI_nat (j := 1) rfl, _, rfl, pi, _, 1, .int (ms o), rfl, rfl, SqT.of (y8 (y1 _ _ epi)), atI_nat (j := 1) rfl, rfl, by show 2 ≤ sizeLine; decide, fun t3 n3 => ?_⟩
    have c3 : (!decide (V.int (ms r) = V.int (ms o))) = decide (ms o ≠ ms r) := by
      rw [decI]
      by_cases z : ms r = ms o
      · simp [z]
      · simp [z, Ne.symm z]
    generalize hb3 : (!decide (V.int (ms r) = V.int (ms o))) = b3 at c3 ⊢
    have y9 : Same G8 (upd G8 t3 (.tup [.str "measure", .bl b3])) := same_upd n3
    have w9 : upd G8 t3 (.tup [.str "measure", .bl b3]) t3 = some (.tup [.str "measure", .bl b3]) := upd_same
    generalize upd G8 t3 (HO.tup [.str "measure", .bl b3]) = G9 at y9 w9 ⊢
    refine ⟨_, rfl, pi, _, 2, .int (v2 (gl o) : Nat), rfl, rfl, SqT.of (y9 _ _ (y8 (y1 _ _ epi))), atI_nat (j := 2) rfl, _, rfl, pm, _, 2, .int (v2 (gl r) : Nat), rfl, rfl, SqT.of (y9 _ _ (y8 (y1 _ _ epm))), atI_nat (j := 2) rfl, _, _, rfl, rfl, by show 2 ≤ sizeLine; decide, fun t4 n4 => ?_⟩
    dsimp only
    have c4 : decide (((v2 (gl o) : Nat) : Int) < ((v2 (gl r) : Nat) : Int)) = decide (v2 (gl o) < v2 (gl r)) := decL _ _
    generalize hb4 : decide (((v2 (gl o) : Nat) : Int) < ((v2 (gl r) : Nat) : Int)) = b4 at c4 ⊢
    have y10 : Same G9 (upd G9 t4 (.tup [.str "twos", .bl b4])) := same_upd n4
    have w10 : upd G9 t4 (.tup [.str "twos", .bl b4]) t4 = some (.tup [.str "twos", .bl b4]) := upd_same
    generalize upd G9 t4 (HO.tup [.str "twos", .bl b4]) = G10 at y10 w10 ⊢
    refine ⟨by show 2 ≤ sizeLine; decide, fun l1 nl1 => ?_⟩
    refine ⟨fo, l1, _, _, rfl, rfl, same_upd nl1 _ _ (y10 _ _ (y9 _ _ w8)), upd_same, by show 2 + 2 ≤ sizeLine; decide, fun l2 nl2 => ?_⟩
    have y11 : Same G10 (upd (upd G10 l1 (.lst [.ref t3, .ref t4])) l2 (.lst ([.ref t1, .ref t2] ++ [.ref t3, .ref t4]))) := (same_upd nl1).trans (same_upd nl2)
    have w11 : upd (upd G10 l1 (.lst [.ref t3, .ref t4])) l2 (.lst ([.ref t1, .ref t2] ++ [.ref t3, .ref t4])) l2 = some (.lst [.ref t1, .ref t2, .ref t3, .ref t4]) := upd_same
    generalize upd (upd G10 l1 (HO.lst [.ref t3, .ref t4])) l2 (HO.lst ([.ref t1, .ref t2] ++ [.ref t3, .ref t4])) = G11 at y11 w11 ⊢
    have y8_11 := y9.trans (y10.trans y11)
    -- found + [odd ones, doubled]
    have last : ∀ (G : Hp) (t5 t6 : Addr) (b5 b6 : Bool), Same G11 G → b5 = (decide (v2 (gl o) = v2 (gl r)) && decide (od r < od o)) → b6 = (decide (v2 (gl o) = v2 (gl r)) && decide (od o = (hold o o.length).length)) → G t5 = some (.tup [.str "odd ones", .bl b5]) → G t6 = some (.tup [.str "doubled", .bl b6]) →
        PairsAt G [t1, t2, t3, t4, t5, t6] (asked r o) := fun G t5 t6 b5 b6 sG h5 h6 e5 e6 => by
      refine .cons ?_ (.cons ?_ (.cons ?_ (.cons ?_ (.cons ?_ (.cons ?_ .nil)))))
      · rw [sG _ _ (y8_11 _ _ (y8 w1)), c1]
      · exact sG _ _ (y8_11 _ _ w8b)
      · rw [sG _ _ (y11 _ _ (y10 _ _ w9)), c3]
      · rw [sG _ _ (y11 _ _ w10), c4]
      · rw [e5, h5]
      · rw [e6, h6]
    have epm11 := y8_11 _ _ (y8 (y1 _ _ epm))
    have epi11 := y8_11 _ _ (y8 (y1 _ _ epi))
    have ra11 : G11 a = some (.tup (r.map V.int)) := y8_11 _ _ (y8 (y1 _ _ (z13 _ _ ra.1)))
    have z11 : Same H G11 := fun c u hc => y8_11 _ _ (y8 (y1 _ _ (z13 _ _ hc)))
    refine ⟨fun σ' G => ∃ (L t5 t6 : Addr), σ' = [some (.ref a), some (.ref b), some (.ref pm), some (.ref pi), none, some (.bl al), some (.int ((hold o o.length).length : Nat)), some (.ref L), none, none, none, none] ∧ Same G11 G ∧ G L = some (.lst (([t1, t2, t3, t4, t5, t6] : List Addr).map V.ref)) ∧ PairsAt G [t1, t2, t3, t4, t5, t6] (asked r o), ?_, ?_⟩
    · cases hal : al with
      | false =>
        rw [hal] at hAl
        refine ⟨_, rfl, _, rfl, _, rfl, iteF ⟨by show 2 ≤ sizeLine; decide, fun t5 n5 => ?_⟩⟩
        refine ⟨_, rfl, _, rfl, iteF ⟨by show 2 ≤ sizeLine; decide, fun t6 n6 => ⟨by show 2 ≤ sizeLine; decide, fun l3 n7 => ?_⟩⟩⟩
        have v1 := (same_upd n5 (o := .tup [.str "odd ones", .bl false])).trans ((same_upd n6 (o := .tup [.str "doubled", .bl false])).trans (same_upd n7 (o := .lst [.ref t5, .ref t6])))
        refine ⟨l2, l3, _, _, rfl, rfl, v1 _ _ w11, upd_same, by show 4 + 2 ≤ sizeLine; decide, fun L nL => ?_⟩
        have v2' := v1.trans (same_upd nL (o := .lst ([.ref t1, .ref t2, .ref t3, .ref t4] ++ [.ref t5, .ref t6])))
        refine ⟨L, t5, t6, rfl, v2', upd_same, last _ t5 t6 false false v2' (by rw [hAl]; rfl) (by rw [hAl]; rfl) (same_upd nL _ _ (same_upd n7 _ _ (same_upd n6 _ _ upd_same))) (same_upd nL _ _ (same_upd n7 _ _ upd_same))⟩
      | true =>
        rw [hal] at hAl
        refine ⟨_, rfl, _, rfl, _, rfl, iteT ⟨_, rfl, pi, _, 3, .int (od o : Nat), rfl, rfl, SqT.of epi11, atI_nat (j := 3) rfl, _, rfl, pm, _, 3, .int (od r : Nat), rfl, rfl, SqT.of epm11, atI_nat (j := 3) rfl, _, _, rfl, rfl, by show 2 ≤ sizeLine; decide, fun t5 n5 => ?_⟩⟩
        dsimp only
        have c5 : decide (((od r : Nat) : Int) < ((od o : Nat) : Int)) = decide (od r < od o) := decL _ _
        generalize hb5 : decide (((od r : Nat) : Int) < ((od o : Nat) : Int)) = b5 at c5 n5 ⊢
        have x5 : Same G11 (upd G11 t5 (.tup [.str "odd ones", .bl b5])) := same_upd n5
        have u5 : upd G11 t5 (.tup [.str "odd ones", .bl b5]) t5 = some (.tup [.str "odd ones", .bl b5]) := upd_same
        generalize upd G11 t5 (HO.tup [.str "odd ones", .bl b5]) = G12 at x5 u5 ⊢
        refine ⟨_, rfl, _, rfl, iteT ⟨_, rfl, pi, _, 3, .int (od o : Nat), rfl, rfl, SqT.of (x5 _ _ epi11), atI_nat (j := 3) rfl, _, rfl, rfl, by show 2 ≤ sizeLine; decide, fun t6 n6 => ?_⟩⟩
        have c6 : decide (V.int (od o : Nat) = V.int ((hold o o.length).length : Nat)) = decide (od o = (hold o o.length).length) := by rw [decI]; exact decN _ _
        generalize hb6 : decide (V.int (od o : Nat) = V.int ((hold o o.length).length : Nat)) = b6 at c6 n6 ⊢
        refine ⟨by show 2 ≤ sizeLine; decide, fun l3 n7 => ?_⟩
        have v1 := (same_upd n6 (o := .tup [.str "doubled", .bl b6])).trans (same_upd n7 (o := .lst [.ref t5, .ref t6]))
        refine ⟨l2, l3, _, _, rfl, rfl, v1 _ _ (x5 _ _ w11), upd_same, by show 4 + 2 ≤ sizeLine; decide, fun L nL => ?_⟩
        have v2' := x5.trans (v1.trans (same_upd nL (o := .lst ([.ref t1, .ref t2, .ref t3, .ref t4] ++ [.ref t5, .ref t6]))))
        refine ⟨L, t5, t6, rfl, v2', upd_same, last _ t5 t6 b5 b6 v2' (by rw [hAl, c5]; rfl) (by rw [hAl, c6]; rfl) (same_upd nL _ _ (v1 _ _ u5)) (same_upd nL _ _ (same_upd n7 _ _ upd_same))⟩
    rintro σ' G ⟨L, t5, t6, rfl, sG, eL, pr⟩
    generalize [t1, t2, t3, t4, t5, t6] = ts at eL pr
    have prl := pr.1
    refine ⟨_, rfl, L, rfl, ⟨_, SqL.of eL⟩, fun D nD => ?_⟩
    refine lc_list (K := K) (a := L) (xs := ts.map V.ref) (fun i H' => Same G H' ∧ H' D = some (.lst (((((asked r o).take i).filter fun p => p.2).map fun p => p.1).map V.str))) ⟨same_upd nD, upd_same⟩ ?_ ?_ ?_
    · rintro i H' _ ⟨sm, _⟩
      exact SqL.of (sm _ _ eL)
    · rintro i x H' hx ⟨sm, hD⟩
      rw [List.getElem?_map] at hx
      obtain ⟨t, ht, rfl⟩ := Option.map_eq_some_iff.mp hx
      have hi : i < ts.length := (List.getElem?_eq_some_iff.mp ht).1
      have hc : (asked r o)[i]? = some (asked r o)[i] := List.getElem?_eq_getElem (by omega)
      generalize (asked r o)[i] = c at hc
      have et := sm _ _ (pr.2 i t c ht hc)
      refine ⟨t, _, rfl, SqT.of et, rfl, .str c.1, [.bl c.2], rfl, .bl c.2, [], rfl, rfl, rfl, _, rfl, c.2, rfl, ?_⟩
      have e1 : (asked r o).take (i + 1) = (asked r o).take i ++ [c] := by rw [List.take_add_one, hc]; rfl
      cases hb : c.2 with
      | true =>
        refine iteT ⟨_, rfl, _, hD, ?_, ?_, ?_⟩
        · rw [List.length_map, List.length_map]
          refine small1000 (Nat.le_trans (List.length_filter_le _ _) ?_)
          rw [List.length_take]
          have : (asked r o).length = 6 := rfl
          omega
        · intro c o hc
          rw [upd_ne (ne_of_none hc nD)]
          exact sm c o hc
        · rw [upd_same, e1, List.filter_append, List.map_append, List.map_append, List.filter_cons_of_pos (by simpa using hb)]
          rfl
      | false =>
        refine iteF ⟨sm, ?_⟩
        rw [e1, List.filter_append, List.filter_cons_of_neg (by rw [hb]; exact Bool.false_ne_true), List.filter_nil, List.append_nil]
        exact hD
    rintro H2 ⟨s2, hD⟩
    rw [List.length_map, prl, List.take_length] at hD
    have ec : ((((asked r o).filter fun p => p.2).map fun p => p.1).map V.str) = (clausesOf r o).map V.str := rfl
    rw [ec] at hD
    have z2' : Same H H2 := z11.trans (sG.trans s2)
    have hclay : ∀ x ∈ clausesOf r o, PyData.canLay0 (.str x) = true := fun x hx => brk_layG r o x (by unfold brkT; rw [if_neg he', if_neg (fun z => z hl)]; exact hx)
    refine ⟨fun σ' G' => σ' = [some (.ref a), some (.ref b), some (.ref pm), some (.ref pi), none, some (.bl al), some (.int ((hold o o.length).length : Nat)), some (.ref L), none, none, none, some (.ref D)] ∧ Same H2 G', ?_, ?_⟩
    · refine ⟨_, rfl, by show 0 ≤ sizeLine; decide, fun e0 n0 => ?_⟩
      have s3 : Same H2 (upd H2 e0 (.lst [])) := same_upd n0
      refine ⟨.list ((clausesOf r o).map PyData.str), .list [], .lst (SqL.of (s3 _ _ hD)) (dpStrsG _), .lst (SqL.of upd_same) .nil, ?_, rfl, _, rfl, ?_⟩
      · unfold SeqAt.shaped
        rw [PyData.canLay0, lay_strsG _ hclay, PyData.depth, depth_strsG]
        rfl
      refine ite2 (fun _ => ?_) (fun hc => iteF ⟨rfl, s3⟩)
      generalize upd H2 e0 (HO.lst []) = H3 at s3 ⊢
      refine ⟨_, rfl, a, rfl, ⟨_, SqT.of (s3 _ _ (z2' _ _ ra.1))⟩, fun D1 nD1 => ?_⟩
      refine cntW (i := 4) (by show 4 < 12; decide) (s3 _ _ (z2' _ _ ra.1)) (by omega) nD1 (fun H4 s4 hD1 => ?_)
      refine ⟨D1, _, rfl, .inl (SqL.of hD1), (((hold r r.length).length : Nat) : Int), 3, ?_, rfl, _, rfl, ?_⟩
      · rw [List.length_map]
        show V.int (cnt r : Nat) = _
        rw [cnt_hold]
      rw [decide_eq_false (by omega)]
      exact iteF (iteF ⟨rfl, s3.trans s4⟩)
    rintro σ' G' ⟨rfl, s3⟩
    refine ⟨_, rfl, D, _, rfl, .inl ⟨SqL.of (s3 _ _ hD), fun p np => ?_⟩⟩
    exact q _ p (z2'.trans (s3.trans (same_upd np))) upd_same
end
end K15

namespace K15
open PySem PySem.Spec PyProof.Rows L2 MG
abbrev sChanged : Stmt := topS 35
abbrev nChanged : List Str := ["_law_box_here", "_law_row_here", "_law_place", "_law_amount", "_law_way", "_law_places_here", "_law_i", "_law_j", "_law_found", "_law_part", "_law_turn", "_law_some"]
theorem scChanged : FnScope ["_law_box_here", "_law_row_here", "_law_place", "_law_amount", "_law_way", "_law_places_here", "_law_i", "_law_j", "_law_found", "_law_part", "_law_turn", "_law_some"] ["_law_box_here", "_law_row_here"] (defScope sChanged) := ⟨rfl, rfl, rfl, by decide +kernel, rfl, by decide +kernel, by decide +kernel⟩
/-- amounts, of a sum at most S -/
structure Am (S : Int) (L : Nat) (ns : List Int) : Prop where
  nn : ∀ n ∈ ns, 0 ≤ n
  sum : ns.sum ≤ S
  len : ns.length ≤ L
  pos : ∃ n ∈ ns, 0 < n
theorem Am.deed {S : Int} {L : Nat} {ns : List Int} {i j : Nat} (g : Am S L ns) (m : MayG ns i j) : Am S L (MG.deed ns i j) := by
  refine ⟨deed_nn m g.nn, by rw [deed_sum m]; exact g.sum, by rw [deed_len]; exact g.len, ?_⟩
  have := deed_get m j
  rw [if_pos rfl] at this
  exact ⟨_, MG.getD_mem (by rw [deed_len]; exact m.hj), by rw [this]; have := m.pj; omega⟩
theorem sum_revG : ∀ l : List Int, l.reverse.sum = l.sum
  | [] => rfl
  | x :: l => by rw [List.reverse_cons, List.sum_append, sum_revG l, List.sum_cons, List.sum_cons, List.sum_nil]; omega
theorem mem_set_nn {l : List Int} {i : Nat} {v : Int} (h : ∀ n ∈ l, 0 ≤ n) (hv : 0 ≤ v) : ∀ n ∈ l.set i v, 0 ≤ n := fun n hn => by
  rcases List.mem_or_eq_of_mem_set hn with hn | rfl
  · exact h n hn
  · exact hv
theorem getD_setG {l : List Int} {i j : Nat} {v : Int} (hi : i < l.length) : (l.set i v).getD j 0 = if i = j then v else l.getD j 0 := by
  rw [List.getD_eq_getElem?_getD]
  by_cases h : i = j
  · subst h
    rw [List.getElem?_set_self hi, if_pos rfl]; rfl
  · rw [List.getElem?_set_ne h, if_neg h, List.getD_eq_getElem?_getD]
theorem partv (g p : Int) (i j : Nat) (h1 : 1 ≤ p) (h2 : p ≤ g) : ∃ v : Int, g - p * (if (!decide ((i : Int) = (j : Int))) = true then 1 else 0) = v ∧ 0 ≤ v ∧ v ≤ g ∧ (i = j → v = g) ∧ (i ≠ j → v = g - p) := by
  refine ⟨_, rfl, ?_⟩
  by_cases z : i = j
  · subst z
    rw [decide_eq_true rfl]
    refine ⟨?_, ?_, fun _ => ?_, fun w => absurd rfl w⟩ <;> (show _; simp; try omega)
  · rw [decide_eq_false (show ¬ (i : Int) = j by omega)]
    have e : (if (!false) = true then (1 : Int) else 0) = 1 := rfl
    rw [e, Int.mul_one]
    exact ⟨by omega, by omega, fun w => absurd w z, fun _ => rfl⟩
section
variable {P : Program} {w : World} {K : PySem.W.Frag} {mg : Str → Option Value} {base : Heap}
def spChanged : Sp := fun vs H Q _ => ∃ (b a : Addr) (ns : List Int) (S : Int) (L n : Nat), vs = [.ref b, .ref a] ∧ Box H b n ∧ n ≤ 800000 ∧ H a = some (.tup (ns.map V.int)) ∧ Am S L ns ∧ S ≤ 2 ^ 60 ∧ L ≤ 28 ∧
  ∀ p H' ms, H p = none → Box H' b (n + 20) → SX b H H' → H' p = some (.tup (List.map V.int ms)) → Am (2 * S + 1) (L + 1) ms → Q (.ref p) H'
theorem ok_changed {f fT fO fN : Addr} {fd fdT fdO fdN : FuncData} {k : Nat} (F : Fun K "_law_changed" "_law_changed" sChanged f fd)
    (FT : Fun K "_law_take" "_law_take" sTake fT fdT) (bT : Binds K fdT ["_law_box_here", "_law_many"] []) (gT : mg "_law_take" = some (.ref fT))
    (FO : Fun K "_law_of" "_law_of" sOf fO fdO) (bO : Binds K fdO ["_law_box_here", "_law_some"] []) (gO : mg "_law_of" = some (.ref fO))
    (FN : Fun K "_law_next" "_law_next" sNext fN fdN) (bN : Binds K fdN ["_law_row_here"] []) (gN : mg "_law_next" = some (.ref fN)) (GN : FnOk P w K mg base CX0 (k + 2) fN fdN ["_law_row_here"] spNext)
    (m_len : mg "len" = none) (m_enumerate : mg "enumerate" = none) (m_list : mg "list" = none) (m_int : mg "int" = none) (m_range : mg "range" = none) (m_tuple : mg "tuple" = none) :
    FnOk P w K mg base CX0 (k + 3) f fd ["_law_box_here", "_law_row_here"] spChanged := by
  have GT : FnOk P w K mg base CX0 (k + 1) fT fdT ["_law_box_here", "_law_many"] spTake := ok_take FT
  have GO : FnOk P w K mg base CX0 (k + 2) fO fdO ["_law_box_here", "_law_some"] spOf := ok_of FO FT bT gT m_len
  refine F.ok scChanged (fun vs H Q E h => ?_) (fun cdv A outer s H vs Q E hr h => ?_)
  · obtain ⟨b, a, ns, S, L, n, rfl, _⟩ := h
    rfl
  · obtain ⟨b, a, ns, S, L, n, rfl, hB, hn, ea, am, hS60, hL, q⟩ := h
    have hr2 := hr
    have hr1 := hr.mono (show k + 1 ≤ k + 2 by omega)
    have hlen := am.len
    have nab : a ≠ b := fun z => by
      rw [z] at ea
      obtain ⟨_, _, _, y, _⟩ := hB
      rw [ea] at y
      cases y
    obtain ⟨x0, hx0, hx0p⟩ := am.pos
    obtain ⟨p0, hp0, ep0⟩ := List.getElem_of_mem hx0
    have hsum0 : 0 < ns.sum := by have := mem_le_sumG am.nn x0 hx0; omega
    refine ⟨_, pss_cons (ps_par (i := 4) (j := 5) rfl scChanged.nd rfl rfl (by decide) rfl rfl (pa_cons (pe_call GT hr1 (by rfl) gT FT.kp bT .nil pass0 (pa_cons (pv 0) (pa_cons pe_int pa_nil))) (pa_cons (pe_lc (own := [("_law_place", 2), ("_law_amount", 3)]) (g := gTup K 2 (gCons (gName 2) (gCons (gName 3) gNil))) rfl scChanged.nd (pi_enumT (by rfl) m_enumerate (pa_cons (pv 1) pa_nil)) (blkOk_by (N := nChanged) (sc := defScope sChanged) (by decide +kernel)) (fun _ _ _ _ _ => pg_tup rfl (pgs_cons (pg_name (i := 2) scChanged.nd rfl (.inl rfl) (.inr rfl)) (pgs_cons (pg_name (i := 3) scChanged.nd rfl (.inl rfl) (.inr rfl)) pgs_nil))) (fun _ _ _ _ _ => pts_one (pt_cmpR op_gt (pv 3) pe_int (nomark _))) (fun _ _ _ _ _ => pv 2)) pa_nil)) (by rfl))
      (pss_cons (ps_par (i := 6) (j := 7) rfl scChanged.nd rfl rfl (by decide) rfl rfl (pa_cons (pe_call GO hr2 (by rfl) gO FO.kp bO .nil pass0 (pa_cons (pv 0) (pa_cons (pv 5) pa_nil))) (pa_cons (pe_call GT hr1 (by rfl) gT FT.kp bT .nil pass0 (pa_cons (pv 0) (pa_cons (pe_callB call_len_seq (by rfl) m_len PySem.boot_len (pa_cons (pv 1) pa_nil)) pa_nil))) pa_nil)) (by rfl))
      (pss_cons (ps_set (i := 8) scChanged.nd rfl (.inl rfl) (pe_callTy call_list_of (by rfl) m_list (by decide +kernel) (pa_cons (pv 1) pa_nil)))
      (pss_cons (ps_set (i := 9) scChanged.nd rfl (.inl rfl) (pe_op op_add pe_int (pe_call GT hr1 (by rfl) gT FT.kp bT .nil pass0 (pa_cons (pv 0) (pa_cons (pe_ix ix_list (pv 8) (pv 6) (fun _ _ => rfl)) pa_nil)))))
      (pss_mid (ps_if (pt_cmpR op_lt (pv 4) pe_int (nomark _)) (pss_cons (ps_asg (pe_op op_sub (pe_ix ix_list (pv 8) (pv 6) (fun _ _ => rfl)) (pe_op op_mul (pv 9) (pe_callTy call_int1 (by rfl) m_int (by decide +kernel) (pa_cons (pe_cmpR op_ne (pv 6) (pv 7) (nomark _)) pa_nil)))) (pg_sub (pv 8) (pv 6) set_list))
      (pss_one (ps_asg (pe_op op_add (pe_ix ix_list (pv 8) (pv 7) (fun _ _ => rfl)) (pv 9)) (pg_sub (pv 8) (pv 7) set_list)))) (pss_one (ps_if (pt_cmpR op_eq (pv 4) pe_int (nomark _)) (pss_one (ps_set (i := 8) scChanged.nd rfl (.inl rfl) (pe_revL (pv 8)))) (pss_one (ps_if (pt_cmpR op_eq (pv 4) pe_int (nomark _)) (pss_one (ps_asg (pe_op op_add (pe_ix ix_list (pv 8) (pv 6) (fun _ _ => rfl)) pe_int) (pg_sub (pv 8) (pv 6) set_list))) (pss_one (ps_if (pt_cmpR op_eq (pv 4) pe_int (nomark _)) (pss_one (ps_set (i := 8) scChanged.nd rfl (.inl rfl) (pe_op op_cat (pv 8) (pe_lst (pa_cons pe_int pa_nil))))) pss_nil)))))))
      (pss_cons (ps_for PassesOwn.never rfl (pi_range1 (by rfl) m_range (pa_cons (pe_op op_mul (pe_call GT hr1 (by rfl) gT FT.kp bT .nil pass0 (pa_cons (pv 0) (pa_cons pe_int pa_nil))) (pe_callTy call_int1 (by rfl) m_int (by decide +kernel) (pa_cons (pe_cmpR op_gt (pv 4) pe_int (nomark _)) pa_nil))) pa_nil)) (pg_name (i := 10) scChanged.nd rfl (.inl rfl)) (pss_cons (ps_set (i := 11) scChanged.nd rfl (.inl rfl) (pe_call GN hr2 (by rfl) gN FN.kp bN .nil pass0 (pa_cons (pe_callTy call_tuple_of (by rfl) m_tuple (by decide +kernel) (pa_cons (pv 8) pa_nil)) pa_nil)))
      (pss_one (ps_set (i := 8) scChanged.nd rfl (.inl rfl) (pe_ifExp (pt_cmpR (op_neD hr.units) (pv 11) (pe_lst pa_nil) (nomark _)) (pe_callTy call_list_of (by rfl) m_list (by decide +kernel) (pa_cons (pe_call GO hr2 (by rfl) gO FO.kp bO .nil pass0 (pa_cons (pv 0) (pa_cons (pv 11) pa_nil))) pa_nil)) (pv 8))))))
      (pss_one (ps_ret (pe_callTy call_tuple_of (by rfl) m_tuple (by decide +kernel) (pa_cons (pv 8) pa_nil))))))))), ?_⟩
    refine ⟨_, rfl, b, 8, n, rfl, hB, by omega, by decide, by decide, fun wy H1 w0 w1 hB1 k1 => ?_⟩
    have x1 : SX b H H1 := .of_eq k1
    refine ⟨.ref a, rfl, a, _, rfl, SqT.of (x1 _ _ nab ea), fun D nD => ?_⟩
    refine holdW (i := 2) (j := 3) (by decide) (by show 2 < 12; decide) (by show 3 < 12; decide) (x1 _ _ nab ea) (by omega) nD (fun H2 s2 hD => ⟨_, _, rfl, ?_⟩)
    have x2 : SX b H H2 := x1.trans (.of_same s2)
    obtain ⟨bo1, bz1⟩ := hB1.get
    have nbD : b ≠ D := ne_of_none bz1 nD
    have hB2 : Box H2 b (n + 1) := hB1.at (by rw [s2 _ _ bz1, bz1])
    have hmem0 : (p0 : Int) ∈ hold ns ns.length := hold_mem hp0 (by rw [getD_eq hp0, ep0]; exact hx0p)
    have hhl := hold_len ns ns.length
    refine ⟨_, rfl, _, rfl, b, D, n + 1, _, rfl, hB2, by omega, hD, nbD, by rw [List.length_map]; exact List.length_pos_of_mem hmem0, by rw [List.length_map]; omega, fun x H3 hx hB3 k3 => ?_⟩
    obtain ⟨x', hx', rfl⟩ := List.mem_map.mp hx
    obtain ⟨i, rfl, hi, hip⟩ := hold_get hx'
    have x3 : SX b H H3 := x2.trans (.of_eq k3)
    refine ⟨_, rfl, _, rfl, a, _, rfl, .inr (SqT.of (x3 _ _ nab ea)), b, _, n + 1 + 1, rfl, hB3, by omega, by rw [List.length_map]; omega, by rw [List.length_map]; omega, fun jj H4 j0 j1 hB4 k4 => ⟨_, _, rfl, ?_⟩⟩
    obtain ⟨j, rfl⟩ : ∃ m : Nat, jj = (m : Int) := ⟨jj.toNat, by omega⟩
    rw [List.length_map] at j1
    have hj : j < ns.length := by omega
    have x4 : SX b H H4 := x3.trans (.of_eq k4)
    refine ⟨_, rfl, a, ns.map V.int, rfl, .inr (SqT.of (x4 _ _ nab ea)), fun l nl => ?_⟩
    have x5 : SX b H (upd H4 l (.lst (ns.map V.int))) := x4.new nl
    have e5 : upd H4 l (.lst (ns.map V.int)) l = some (.lst (ns.map V.int)) := upd_same
    have hB5 : Box (upd H4 l (.lst (ns.map V.int))) b (n + 1 + 1 + 1) := hB4.new nl
    obtain ⟨bo4, bz4⟩ := hB4.get
    have nbl : b ≠ l := ne_of_none bz4 nl
    have nlH : H l = none := x4.free hB4 nl
    generalize upd H4 l (HO.lst (ns.map V.int)) = H5 at x5 e5 hB5 ⊢
    have hib : ns.getD i 0 ≤ ns.sum := mem_le_sumG am.nn _ (MG.getD_mem hi)
    have hs1 := am.sum
    refine ⟨_, rfl, _, rfl, _, rfl, l, _, (i : Int), .int (ns.getD i 0), rfl, rfl, SqL.of e5, atI_nat (getD_at hi), b, _, n + 1 + 1 + 1, rfl, hB5, by omega, by omega, by omega, fun r H6 r0 r1 hB6 k6 => ⟨1, r, rfl, rfl, ?_⟩⟩
    have x6 : SX b H H6 := x5.trans (.of_eq k6)
    have e6 : H6 l = some (.lst (ns.map V.int)) := by rw [k6 l nbl.symm]; exact e5
    dsimp only
    refine ⟨fun σ' G => ∃ (l' : Addr) (ms : List Int), σ' = [some (.ref b), some (.ref a), none, none, some (.int wy), some (.ref D), some (.int i), some (.int j), some (.ref l'), some (.int (1 + r)), none, none] ∧ SX b H G ∧ Box G b (n + 4) ∧ G l' = some (.lst (ms.map V.int)) ∧ l' ≠ b ∧ Am (2 * S + 1) (L + 1) ms, ?_, ?_⟩
    · have am' : Am (2 * S + 1) (L + 1) ns := ⟨am.nn, by omega, by omega, am.pos⟩
      refine ⟨_, rfl, _, _, rfl, rfl, _, rfl, ite2 (fun _ => ?_) (fun _ => ?_)⟩
      · refine ⟨_, rfl, _, rfl, l, _, (i : Int), .int (ns.getD i 0), rfl, rfl, SqL.of e6, atI_nat (getD_at hi), _, rfl, _, rfl, _, rfl, rfl, .inr ⟨_, rfl, 1 + r, _, rfl, rfl, .inr ?_, _, _, rfl, rfl, ?_⟩⟩
        · generalize (!decide (V.int (i : Nat) = V.int (j : Nat))) = z
          cases z <;> decide
        rw [decI]
        have hv := partv (ns.getD i 0) (1 + r) i j (by omega) (by omega)
        obtain ⟨v, ev, v0, v1, v2', v3⟩ := hv
        dsimp only
        rw [ev]
        refine ⟨_, rfl, _, rfl, l, _, (i : Int), i, rfl, rfl, e6, ixN_nat (by rw [List.length_map]; exact hi), ?_⟩
        rw [← List.map_set]
        have e7 : upd H6 l (.lst ((ns.set i v).map V.int)) l = some (.lst ((ns.set i v).map V.int)) := upd_same
        have x7 : SX b H (upd H6 l (.lst ((ns.set i v).map V.int))) := x6.set nlH
        have hB7 : Box (upd H6 l (.lst ((ns.set i v).map V.int))) b (n + 1 + 1 + 1 + 1) := hB6.set nbl
        generalize upd H6 l (HO.lst ((ns.set i v).map V.int)) = H7 at e7 x7 hB7 ⊢
        have hj' : j < (ns.set i v).length := by rw [List.length_set]; exact hj
        refine ⟨_, rfl, _, rfl, l, _, (j : Int), .int ((ns.set i v).getD j 0), rfl, rfl, SqL.of e7, atI_nat (getD_at hj'), _, rfl, _, _, rfl, rfl, _, rfl, _, rfl, l, _, (j : Int), j, rfl, rfl, e7, ixN_nat (by rw [List.length_map]; exact hj'), ?_⟩
        rw [← List.map_set]
        have nn1 := mem_set_nn (i := i) am.nn v0
        have hg := nn1 _ (MG.getD_mem hj')
        refine ⟨l, (ns.set i v).set j ((ns.set i v).getD j 0 + (1 + r)), rfl, x7.set nlH, hB7.set nbl, upd_same, nbl.symm, mem_set_nn nn1 (by omega), ?_, by rw [List.length_set, List.length_set]; omega, ?_⟩
        · rw [sum_setG _ j hj', sum_setG _ i hi, ← getD_eq hj', ← getD_eq hi]
          by_cases z : i = j
          · have := v2' z; omega
          · have := v3 z; omega
        · exact ⟨(ns.set i v).getD j 0 + (1 + r), List.mem_set hj' _, by omega⟩
      refine ⟨_, rfl, rfl, _, rfl, ite2 (fun _ => ?_) (fun _ => ?_)⟩
      · refine ⟨_, rfl, l, _, rfl, SqL.of e6, fun p np => ?_⟩
        rw [← List.map_reverse]
        obtain ⟨bo6, bz6⟩ := hB6.get
        refine ⟨p, ns.reverse, rfl, x6.new np, hB6.new np, upd_same, (ne_of_none bz6 np).symm, fun m hm => am.nn m (List.mem_reverse.mp hm), by rw [sum_revG]; omega, by rw [List.length_reverse]; omega, ⟨x0, List.mem_reverse.mpr hx0, hx0p⟩⟩
      refine ⟨_, rfl, rfl, _, rfl, ite2 (fun _ => ?_) (fun _ => ?_)⟩
      · refine ⟨_, rfl, _, rfl, l, _, (i : Int), .int (ns.getD i 0), rfl, rfl, SqL.of e6, atI_nat (getD_at hi), _, 1, rfl, rfl, _, rfl, _, rfl, l, _, (i : Int), i, rfl, rfl, e6, ixN_nat (by rw [List.length_map]; exact hi), ?_⟩
        rw [← List.map_set]
        refine ⟨l, ns.set i (ns.getD i 0 + 1), rfl, x6.set nlH, hB6.set nbl, upd_same, nbl.symm, mem_set_nn am.nn (by omega), ?_, by rw [List.length_set]; omega, ⟨ns.getD i 0 + 1, List.mem_set hi _, by omega⟩⟩
        rw [sum_setG _ i hi, ← getD_eq hi]
        omega
      refine ⟨_, rfl, rfl, _, rfl, ite2 (fun _ => ?_) (fun _ => ?_)⟩
      · refine ⟨_, rfl, by show 1 ≤ sizeLine; decide, fun l2 n2 => ?_⟩
        refine ⟨l, l2, _, _, rfl, rfl, same_upd n2 _ _ e6, upd_same, by rw [List.length_map]; show ns.length + 1 ≤ sizeLine; rw [sizeLine_eq]; omega, fun p np => ?_⟩
        have z : ns.map V.int ++ [V.int 0] = (ns ++ [0]).map V.int := by rw [List.map_append]; rfl
        rw [z]
        have hB7 : Box (upd H6 l2 (.lst [.int 0])) b (n + 1 + 1 + 1 + 1) := hB6.new n2
        obtain ⟨bo7, bz7⟩ := hB7.get
        refine ⟨p, ns ++ [0], rfl, (x6.new n2).new np, hB7.new np, upd_same, (ne_of_none bz7 np).symm, fun m hm => ?_, by rw [List.sum_append]; show ns.sum + (0 + 0) ≤ _; omega, by rw [List.length_append]; show ns.length + 1 ≤ _; omega, ⟨x0, List.mem_append_left _ hx0, hx0p⟩⟩
        rcases List.mem_append.mp hm with hm | hm
        · exact am.nn m hm
        · rw [List.mem_singleton.mp hm]; omega
      · exact ⟨l, ns, rfl, x6, hB6, e6, nbl.symm, am'⟩
    rintro σ' G ⟨l', ms, rfl, xG, hBG, eG, nlb, amG⟩
    refine ⟨_, rfl, b, 4, n + 4, rfl, hBG, by omega, by decide, by decide, fun r2 H7 r20 r21 hB7 k7 => ?_⟩
    have hcount : ∃ c : Int, r2 * (if decide (5 < wy) = true then 1 else 0) = c ∧ 0 ≤ c ∧ c ≤ 3 := by
      refine ⟨_, rfl, ?_⟩
      cases decide (5 < wy) <;> simp <;> omega
    obtain ⟨c, ec, c0, c3⟩ := hcount
    refine ⟨_, rfl, wy, 5, rfl, rfl, .inr ⟨_, rfl, r2, _, rfl, rfl, .inl ⟨by omega, by omega⟩, c, ?_, by omega, by omega, ?_⟩⟩
    · show [V.int (r2 * (if decide (5 < wy) = true then 1 else 0))] = [V.int c]
      rw [ec]
    have x7 : SX b H H7 := xG.trans (.of_eq k7)
    have e7 : H7 l' = some (.lst (ms.map V.int)) := by rw [k7 l' nlb]; exact eG
    refine for_range (lo := 0) (n := c.toNat) (fun m σ G => ∃ (y10 y11 : Option V) (l' : Addr) (ms : List Int), σ = [some (.ref b), some (.ref a), none, none, some (.int wy), some (.ref D), some (.int i), some (.int j), some (.ref l'), some (.int (1 + r)), y10, y11] ∧ SX b H G ∧ Box G b (n + 5 + m) ∧ G l' = some (.lst (ms.map V.int)) ∧ l' ≠ b ∧ Am (2 * S + 1) (L + 1) ms) ?_ ?_ ?_
    · exact ⟨_, _, l', ms, rfl, x7, hB7, e7, nlb, amG⟩
    rotate_left
    · rintro σ G ⟨y10, y11, l', ms, rfl, xG, hBG, eG, nlb, amG⟩
      refine ⟨_, rfl, l', _, rfl, .inl ⟨SqL.of eG, fun p np => ?_⟩⟩
      exact q p _ ms (xG.free hBG np) ((hBG.new np).le (by omega)) (xG.new np) upd_same amG
    rintro m σ G hm ⟨y10, y11, l', ms, rfl, xG, hBG, eG, nlb, amG⟩
    have hml := amG.len
    refine ⟨_, rfl, l', _, rfl, .inl ⟨SqL.of eG, fun t nt => ⟨t, ms, rfl, upd_same, amG.nn, by omega, fun p ts G2 s2 fp ep tl nx => ?_⟩⟩⟩
    have sG := (same_upd nt (o := .tup (ms.map V.int))).trans s2
    have xG2 : SX b H G2 := xG.trans (.of_same sG)
    obtain ⟨boG, bzG⟩ := hBG.get
    have hBG2 : Box G2 b (n + 5 + m) := hBG.at (by rw [sG _ _ bzG, bzG])
    have eG2 := sG _ _ eG
    refine ⟨_, rfl, by show 0 ≤ sizeLine; decide, fun e0 n0 => ?_⟩
    have s3 : Same G2 (upd G2 e0 (.lst [])) := same_upd n0
    have w3 : upd G2 e0 (.lst []) e0 = some (.lst []) := upd_same
    have hBG3 : Box (upd G2 e0 (.lst [])) b (n + 5 + m) := hBG2.new n0
    generalize upd G2 e0 (HO.lst []) = G3 at s3 w3 hBG3 ⊢
    have nx3 : Nx G3 ms ts := nx.mono fun c xs hc => s3 _ _ hc
    obtain ⟨rs, hrl, hdp⟩ := dpRows (K := K) (H := G3) (ts := ts) fun t ht => by
      obtain ⟨i1, j1, _, e1⟩ := nx3 t ht
      exact ⟨_, e1⟩
    refine ⟨.list (rs.map rowDt), .list [], .lst (SqL.of (s3 _ _ ep)) hdp, .lst (SqL.of w3) .nil, shapedL_rows rs, rfl, _, rfl, ?_⟩
    have nbp : b ≠ p := ne_of_none (same_upd nt _ _ bzG) fp
    cases rs with
    | nil => exact iteF ⟨_, rfl, _, _, l', ms, rfl, xG2.trans (.of_same s3), hBG3.le (by omega), s3 _ _ eG2, nlb, amG⟩
    | cons r0 rr =>
      rw [List.length_cons] at hrl
      refine iteT ⟨_, rfl, _, rfl, b, p, n + 5 + m, _, rfl, hBG3, by omega, s3 _ _ ep, nbp, by rw [List.length_map]; omega, by rw [List.length_map]; omega, fun x G4 hx hB4 k4 => ?_⟩
      obtain ⟨u, hu, rfl⟩ := List.mem_map.mp hx
      obtain ⟨i1, j1, mg1, e1⟩ := nx3 u hu
      have nub : u ≠ b := fun z => by
        rw [z] at e1
        obtain ⟨_, _, _, y, _⟩ := hBG3
        rw [e1] at y
        cases y
      have e4 : G4 u = some (.tup ((MG.deed ms i1 j1).map V.int)) := by rw [k4 u nub]; exact e1
      refine ⟨u, _, rfl, .inr (SqT.of e4), fun l2 nl2 => ?_⟩
      obtain ⟨bo4', bz4'⟩ := hB4.get
      exact ⟨_, _, l2, _, rfl, ((xG2.trans (.of_same s3)).trans (.of_eq k4)).new nl2, (hB4.new nl2).le (by omega), upd_same, (ne_of_none bz4' nl2).symm, amG.deed mg1⟩
end
end K15

namespace K15
open PySem PySem.Spec PyProof.Rows L2 MG
abbrev sRight : Stmt := topS 36
abbrev nRight : List Str := ["_law_row_here", "_law_other", "_law_due_here", "_law_kept"]
theorem scRight : FnScope ["_law_row_here", "_law_other", "_law_due_here", "_law_kept"] ["_law_row_here", "_law_other"] (defScope sRight) := ⟨rfl, rfl, rfl, by decide +kernel, rfl, by decide +kernel, by decide +kernel⟩
section
variable {P : Program} {w : World} {K : PySem.W.Frag} {mg : Str → Option Value} {base : Heap}
def spRight : Sp := fun vs H Q _ => ∃ a b r o, vs = [.ref a, .ref b] ∧ Row H a r ∧ Row H b o ∧ (r = o ∨ 3 ≤ (hold r r.length).length) ∧ ∀ H', Same H H' → Q (.bl true) H'
theorem ok_right {f fU fK fM : Addr} {fd fdU fdK fdM : FuncData} {k : Nat} (sys : SysD base) (F : Fun K "_law_right" "_law_right" sRight f fd)
    (FU : Fun K "_law_due" "_law_due" sDue fU fdU) (bU : Binds K fdU ["_law_row_here", "_law_other"] []) (gU : mg "_law_due" = some (.ref fU)) (GU : FnOk P w K mg base CX0 (k + 2) fU fdU ["_law_row_here", "_law_other"] spDue)
    (FK : Fun K "broken" "broken" sBroken fK fdK) (bK : Binds K fdK ["row", "other"] []) (gK : mg "broken" = some (.ref fK)) (GK : FnOk P w K mg base CX0 (k + 6) fK fdK ["row", "other"] spBroken)
    (FM : Fun K "comes" "comes" sComes fM fdM) (bM : Binds K fdM ["row", "other"] []) (gM : mg "comes" = some (.ref fM)) (GM : FnOk P w K mg base CX0 (k + 7) fM fdM ["row", "other"] spComes)
    (m_repr : mg "repr" = none) : FnG P w K mg base (k + 8) f fd ["_law_row_here", "_law_other"] spRight := by
  refine okG F scRight (fun vs H Q E h => ?_) (fun cdv A outer s H vs Q E gd hr h => ?_)
  · obtain ⟨a, b, r, o, rfl, _⟩ := h
    rfl
  · obtain ⟨a, b, r, o, rfl, ra, rb, h3, q⟩ := h
    have hr7 := hr
    have hr6 := hr.mono (show k + 6 ≤ k + 7 by omega)
    have hr2 := hr.mono (show k + 2 ≤ k + 7 by omega)
    have cr : ∀ {X : Cx}, X = (cxOf CX0 P w K mg base nRight "_law_right" (defScope sRight) f cdv A outer s H E).nox →
        CallR X (.builtin "repr") (fun xs H Q => ∃ x d, xs = [x] ∧ Dd H x d ∧ d.showable = true ∧ d.depth ≤ 60 ∧ d.shown.length ≤ sizeLine ∧ Q (.str d.shown) H) := by
      rintro X rfl
      exact call_repr gd (by have := hr.un; show (A.deeper _).units + 100 < cLine; omega) sys
    have R := cr rfl
    have shr := Sh.row ra.2.1 ra.2.2.1
    have sho := Sh.row rb.2.1 rb.2.2.1
    have sh2 : Sh 2 (2 * (40 * 303 + 3 + 2) + 3) (.tuple [rowDt r, rowDt o]) := Sh.tup (m := 2) (fun d hd => by
      simp only [List.mem_cons, List.not_mem_nil, or_false] at hd
      rcases hd with rfl | rfl
      · exact shr
      · exact sho) (Nat.le_refl _)
    have sl2 : 2 * (40 * 303 + 3 + 2) + 3 ≤ sizeLine := by rw [sizeLine_eq]; decide
    have shb := Sh.brk r o
    have slb : 6 * 22 + 3 ≤ sizeLine := by rw [sizeLine_eq]; decide
    have bsh : ∀ b : Bool, (PyData.bool b).shown.length ≤ sizeLine := fun b => Nat.le_trans (Sh.bool b).2.2 (by rw [sizeLine_eq]; decide)
    have dr : ∀ {G : Hp} {t : Addr}, Same H G → G t = some (.tup [.ref a, .ref b]) → Dd G (.ref t) (.tuple [rowDt r, rowDt o]) := fun sm e => .tup e (.cons (.tup (sm _ _ ra.1) (ddIntsG r)) (.cons (.tup (sm _ _ rb.1) (ddIntsG o)) .nil))
    refine ⟨_, pss_cons (ps_par (i := 2) (j := 3) rfl scRight.nd rfl rfl (by decide) rfl rfl (pa_cons (pe_call GU hr2 (by rfl) gU FU.kp bU .nil pass0 (pa_cons (pv 0) (pa_cons (pv 1) pa_nil))) (pa_cons (pe_callB R (by rfl) m_repr (by decide +kernel) (pa_cons (pe_tup (pa_cons (pv 0) (pa_cons (pv 1) pa_nil))) pa_nil)) pa_nil)) (by rfl))
      (pss_cons (ps_if (PW.pt (pw_or (pt_cmpR op_ne (pe_callB R (by rfl) m_repr (by decide +kernel) (pa_cons (pe_call GK hr6 (by rfl) gK FK.kp bK .nil pass0 (pa_cons (pv 0) (pa_cons (pv 1) pa_nil))) pa_nil)) (pe_callB R (by rfl) m_repr (by decide +kernel) (pa_cons (pv 2) pa_nil)) (nomark _)) (pw_or1 (pt_cmpR op_ne (pe_callB R (by rfl) m_repr (by decide +kernel) (pa_cons (pe_call GM hr7 (by rfl) gM FM.kp bM .nil pass0 (pa_cons (pv 0) (pa_cons (pv 1) pa_nil))) pa_nil)) (pe_callB R (by rfl) m_repr (by decide +kernel) (pa_cons (pe_cmpR (op_eqD hr.units) (pv 2) (pe_tup pa_nil) (nomark _)) pa_nil)) (nomark _))))) (pss_one (ps_ret pe_bl)) pss_nil)
      (pss_one (ps_ret (pe_cmpR op_eq (pe_callB R (by rfl) m_repr (by decide +kernel) (pa_cons (pe_tup (pa_cons (pv 0) (pa_cons (pv 1) pa_nil))) pa_nil)) (pv 3) (nomark _))))), ?_⟩
    refine ⟨_, rfl, _, rfl, a, b, r, o, rfl, ra, rb, h3, fun G1 pd s1 e1 => ?_⟩
    refine ⟨_, rfl, _, rfl, by show 2 ≤ sizeLine; decide, fun tp ntp => ?_⟩
    have s2 : Same H (upd G1 tp (.tup [.ref a, .ref b])) := s1.trans (same_upd ntp)
    have e2 : upd G1 tp (.tup [.ref a, .ref b]) tp = some (.tup [.ref a, .ref b]) := upd_same
    have e1' : upd G1 tp (.tup [.ref a, .ref b]) pd = some (.tup ((brkT r o).map V.str)) := same_upd ntp _ _ e1
    generalize upd G1 tp (HO.tup [.ref a, .ref b]) = G2 at s2 e2 e1' ⊢
    refine ⟨.ref tp, _, rfl, dr s2 e2, sh2.1, Nat.le_trans sh2.2.1 (by decide), Nat.le_trans sh2.2.2 sl2, _, _, rfl, ?_⟩
    refine ⟨_, rfl, _, rfl, a, b, r, o, rfl, ra.same s2, rb.same s2, h3, fun G3 p3 s3 e3 => ?_⟩
    refine ⟨.ref p3, _, rfl, .tup e3 (ddStrsG _), shb.1, Nat.le_trans shb.2.1 (by decide), Nat.le_trans shb.2.2 slb, _, rfl, .ref pd, _, rfl, .tup (s3 _ _ e1') (ddStrsG _), shb.1, Nat.le_trans shb.2.1 (by decide), Nat.le_trans shb.2.2 slb, rfl, _, rfl, iteNS rfl ?_⟩
    have s03 := s2.trans s3
    refine ⟨_, rfl, _, rfl, a, b, r, o, rfl, ra.same s03, rb.same s03, h3, fun G4 s4 => ?_⟩
    refine ⟨_, .bool (decide (brkT r o = [])), rfl, .bl _, rfl, Nat.zero_le _, bsh _, _, rfl, by show 0 ≤ sizeLine; decide, fun e0 n0 => ?_⟩
    have s5 : Same G4 (upd G4 e0 (.tup [])) := same_upd n0
    refine ⟨.tuple ((brkT r o).map PyData.str), .tuple (([] : List Str).map PyData.str), .tup (SqT.of (s5 _ _ (s4 _ _ (s3 _ _ e1')))) (dpStrsG _), .tup (SqT.of upd_same) .nil, shapedT_strs _ (brk_layG r o), rfl, ?_⟩
    rw [eqv_strs]
    refine ⟨_, .bool (decide (brkT r o = [])), rfl, .bl _, rfl, Nat.zero_le _, bsh _, rfl, _, rfl, iteNS rfl ?_⟩
    have s05 := s03.trans (s4.trans s5)
    refine ⟨_, rfl, _, rfl, by show 2 ≤ sizeLine; decide, fun t2 nt2 => ?_⟩
    have s06 := s05.trans (same_upd nt2 (o := .tup [.ref a, .ref b]))
    refine ⟨.ref t2, _, rfl, dr s06 upd_same, sh2.1, Nat.le_trans sh2.2.1 (by decide), Nat.le_trans sh2.2.2 sl2, _, rfl, rfl, ?_⟩
    rw [decide_eq_true rfl]
    exact q _ s06
end
end K15

namespace K15
open PySem PySem.Spec PyProof.Rows L2 MG
abbrev sLaw : Stmt := topS 37
abbrev nLaw : List Str := ["_law_script", "_law_k", "_law_box_here", "_law_turn", "_law_row_here", "_law_times", "_law_amount", "_law_total", "_law_many", "_law_free", "_law_others", "_law_other"]
theorem scLaw : FnScope ["_law_script", "_law_k", "_law_box_here", "_law_turn", "_law_row_here", "_law_times", "_law_amount", "_law_total", "_law_many", "_law_free", "_law_others", "_law_other"] ["_law_script"] (defScope sLaw) := ⟨rfl, rfl, rfl, by decide +kernel, rfl, by decide +kernel, by decide +kernel⟩
theorem Am.row {S : Int} {L : Nat} {ns : List Int} (g : Am S L ns) (hS : S ≤ 2 ^ 60) (hL : L ≤ 40) {H : Hp} {a : Addr} (e : H a = some (.tup (ns.map V.int))) : Row H a ns := by
  refine ⟨e, fun n hn => ⟨g.nn n hn, ?_⟩, by have := g.len; omega, g.pos⟩
  have h1 := mem_le_sumG g.nn n hn
  have h2 := g.sum
  omega
theorem Am.le {S S' : Int} {L L' : Nat} {ns : List Int} (g : Am S L ns) (hS : S ≤ S') (hL : L ≤ L') : Am S' L' ns := ⟨g.nn, Int.le_trans g.sum hS, Nat.le_trans g.len hL, g.pos⟩
theorem perm_sumG {a b : List Int} (h : a.Perm b) : a.sum = b.sum := by
  induction h with
  | nil => rfl
  | cons x _ ih => rw [List.sum_cons, List.sum_cons, ih]
  | swap x y l => rw [List.sum_cons, List.sum_cons, List.sum_cons, List.sum_cons]; omega
  | trans _ _ i1 i2 => rw [i1, i2]
theorem cnt_mul {t : Int} (ht : 0 < t) : ∀ l : List Int, cnt (l.map fun n => t * n) = cnt l
  | [] => rfl
  | x :: l => by
    have ih := cnt_mul ht l
    unfold MG.cnt at ih ⊢
    rw [List.map_cons]
    by_cases h : 0 < x
    · rw [List.filter_cons_of_pos (by simpa using Int.mul_pos ht h), List.filter_cons_of_pos (by simpa using h), List.length_cons, List.length_cons, ih]
    · rw [List.filter_cons_of_neg (by simpa using Int.mul_nonpos_of_nonneg_of_nonpos (by omega) (by omega)), List.filter_cons_of_neg (by simpa using h), ih]
theorem pos_of_cnt {l : List Int} (h : 0 < cnt l) : ∃ n ∈ l, 0 < n := by
  unfold MG.cnt at h
  obtain ⟨x, hx⟩ := List.exists_mem_of_length_pos h
  obtain ⟨h1, h2⟩ := List.mem_filter.mp hx
  exact ⟨x, h1, of_decide_eq_true h2⟩
theorem zeros_sum : ∀ k : Nat, (List.replicate k (0 : Int)).sum = 0
  | 0 => rfl
  | k + 1 => by rw [List.replicate_succ, List.sum_cons, zeros_sum k]; rfl
section
variable {P : Program} {w : World} {K : PySem.W.Frag} {mg : Str → Option Value} {base : Heap}
def spLaw (K : PySem.W.Frag) : Sp := fun vs H Q _ => ∃ (a : Addr) (ns : List Int), vs = [.ref a] ∧ SqL K H a (ns.map V.int) ∧ ns.length ≤ 63 ∧ ∀ H', Q (.bl true) H'
theorem ok_law {f fX fT fO fL fS fP fC fE : Addr} {fd fdX fdT fdO fdL fdS fdP fdC fdE : FuncData} {k : Nat} (F : Fun K "law" "law" sLaw f fd)
    (FX : Fun K "_law_box" "_law_box" sBox fX fdX) (bX : Binds K fdX ["_law_script", "_law_k"] []) (gX : mg "_law_box" = some (.ref fX)) (GX : FnOk P w K mg base CX0 (k + 1) fX fdX ["_law_script", "_law_k"] (spBox K))
    (FT : Fun K "_law_take" "_law_take" sTake fT fdT) (bT : Binds K fdT ["_law_box_here", "_law_many"] []) (gT : mg "_law_take" = some (.ref fT))
    (FO : Fun K "_law_of" "_law_of" sOf fO fdO) (bO : Binds K fdO ["_law_box_here", "_law_some"] []) (gO : mg "_law_of" = some (.ref fO))
    (FL : Fun K "_law_row" "_law_row" sLine fL fdL) (bL : Binds K fdL ["_law_box_here", "_law_least", "_law_greatest", "_law_most"] []) (gL : mg "_law_row" = some (.ref fL)) (GL : FnOk P w K mg base CX0 (k + 3) fL fdL ["_law_box_here", "_law_least", "_law_greatest", "_law_most"] spLine)
    (FS : Fun K "_law_split" "_law_split" sSplit fS fdS) (bS : Binds K fdS ["_law_box_here", "_law_total", "_law_many"] []) (gS : mg "_law_split" = some (.ref fS)) (GS : FnOk P w K mg base CX0 (k + 2) fS fdS ["_law_box_here", "_law_total", "_law_many"] spSplit)
    (FP : Fun K "_law_places" "_law_places" sPlaces fP fdP) (bP : Binds K fdP ["_law_box_here", "_law_amounts", "_law_nothing"] []) (gP : mg "_law_places" = some (.ref fP)) (GP : FnOk P w K mg base CX0 (k + 2) fP fdP ["_law_box_here", "_law_amounts", "_law_nothing"] spPlaces)
    (FC : Fun K "_law_changed" "_law_changed" sChanged fC fdC) (bC : Binds K fdC ["_law_box_here", "_law_row_here"] []) (gC : mg "_law_changed" = some (.ref fC)) (GC : FnOk P w K mg base CX0 (k + 3) fC fdC ["_law_box_here", "_law_row_here"] spChanged)
    (FE : Fun K "_law_right" "_law_right" sRight fE fdE) (bE : Binds K fdE ["_law_row_here", "_law_other"] []) (gE : mg "_law_right" = some (.ref fE)) (GE : FnG P w K mg base (k + 8) fE fdE ["_law_row_here", "_law_other"] spRight)
    (m_len : mg "len" = none) (m_min : mg "min" = none) (m_max : mg "max" = none) (m_range : mg "range" = none) (m_tuple : mg "tuple" = none) (m_sum : mg "sum" = none) (m_all : mg "all" = none) : FnG P w K mg base (k + 9) f fd ["_law_script"] (spLaw K) := by
  have GT : FnOk P w K mg base CX0 (k + 1) fT fdT ["_law_box_here", "_law_many"] spTake := ok_take FT
  have GO : FnOk P w K mg base CX0 (k + 2) fO fdO ["_law_box_here", "_law_some"] spOf := ok_of FO FT bT gT m_len
  refine okG F scLaw (fun vs H Q E h => ?_) (fun cdv A outer s H vs Q E gd hr h => ?_)
  · obtain ⟨a, ns, rfl, _⟩ := h
    rfl
  · obtain ⟨a, ns, rfl, hS, hlen, q⟩ := h
    have hr1 := hr.mono (show k + 1 ≤ k + 8 by omega)
    have hr2 := hr.mono (show k + 2 ≤ k + 8 by omega)
    have hr3 := hr.mono (show k + 3 ≤ k + 8 by omega)
    refine ⟨_, pss_cons (ps_for PassesOwn.never rfl (pi_range1 (by rfl) m_range (pa_cons (pe_op op_add pe_int (pe_callB (call_min2 rfl) (by rfl) m_min (by decide +kernel) (pa_cons pe_int (pa_cons (pe_callB call_len_seq (by rfl) m_len PySem.boot_len (pa_cons (pv 0) pa_nil)) pa_nil)))) pa_nil)) (pg_name (i := 1) scLaw.nd rfl (.inl rfl)) (pss_cons (ps_set (i := 2) scLaw.nd rfl (.inl rfl) (pe_call GX hr1 (by rfl) gX FX.kp bX .nil pass0 (pa_cons (pv 0) (pa_cons (pv 1) pa_nil))))
      (pss_one (ps_for PassesOwn.never rfl (pi_range1 (by rfl) m_range (pa_cons pe_int pa_nil)) (pg_name (i := 3) scLaw.nd rfl (.inl rfl)) (pss_cons (ps_set (i := 4) scLaw.nd rfl (.inr rfl) (pe_call GL hr3 (by rfl) gL FL.kp bL .nil pass0 (pa_cons (pv 2) (pa_cons pe_int (pa_cons pe_int (pa_cons pe_int pa_nil))))))
      (pss_cons (ps_set (i := 5) scLaw.nd rfl (.inr rfl) (pe_call GO hr2 (by rfl) gO FO.kp bO .nil pass0 (pa_cons (pv 2) (pa_cons (pe_lst (pa_cons pe_int (pa_cons pe_int (pa_cons pe_int (pa_cons pe_int pa_nil))))) pa_nil))))
      (pss_cons (ps_set (i := 4) scLaw.nd rfl (.inr rfl) (pe_callTy call_tuple_of (by rfl) m_tuple (by decide +kernel) (pa_cons (pe_lc (own := [("_law_amount", 6)]) (g := gName 6) (tt := tYes) rfl scLaw.nd (pi_tup (pv 4)) (blkOk_by (N := nLaw) (sc := defScope sLaw) (by decide +kernel)) (fun _ _ _ _ _ => pg_name (i := 6) scLaw.nd rfl (Or.inl rfl)) (fun _ _ _ _ _ => pts_nil) (fun _ _ _ _ _ => pe_op op_mul (pv 5) (pv 6))) pa_nil)))
      (pss_cons (ps_par (i := 7) (j := 8) rfl scLaw.nd rfl rfl (by decide) rfl rfl (pa_cons (pe_callB (sumT rfl) (by rfl) m_sum (by decide +kernel) (pa_cons (pv 4) pa_nil)) (pa_cons (pe_op op_add pe_int (pe_call GT hr1 (by rfl) gT FT.kp bT .nil pass0 (pa_cons (pv 2) (pa_cons (pe_callB call_len_seq (by rfl) m_len PySem.boot_len (pa_cons (pv 4) pa_nil)) pa_nil)))) pa_nil)) (by rfl))
      (pss_cons (ps_set (i := 9) scLaw.nd rfl (.inl rfl) (pe_call GP hr2 (by rfl) gP FP.kp bP .nil pass0 (pa_cons (pv 2) (pa_cons (pe_call GS hr2 (by rfl) gS FS.kp bS .nil pass0 (pa_cons (pv 2) (pa_cons (pe_callB (call_max2 rfl) (by rfl) m_max (by decide +kernel) (pa_cons (pv 7) (pa_cons (pv 8) pa_nil))) (pa_cons (pv 8) pa_nil)))) (pa_cons (pe_op op_sub (pe_callB call_len_seq (by rfl) m_len PySem.boot_len (pa_cons (pv 4) pa_nil)) (pv 8)) pa_nil)))))
      (pss_cons (ps_set (i := 10) scLaw.nd rfl (.inl rfl) (pe_lst (pa_cons (pv 4) (pa_cons (pv 9) (pa_cons (pe_call GC hr3 (by rfl) gC FC.kp bC .nil pass0 (pa_cons (pv 2) (pa_cons (pv 4) pa_nil))) (pa_cons (pe_call GC hr3 (by rfl) gC FC.kp bC .nil pass0 (pa_cons (pv 2) (pa_cons (pv 4) pa_nil))) pa_nil))))))
      (pss_cons (ps_expr (pe_bm PySem.F.plainAttrs_list PySem.F.slot_list_append PySem.F.type_list_append mt_append (pv 10) (pa_cons (pe_call GC hr3 (by rfl) gC FC.kp bC .nil pass0 (pa_cons (pv 2) (pa_cons (pe_ix ix_list (pv 10) (pe_un un_neg pe_int) (fun _ _ => rfl)) pa_nil))) pa_nil)))
      (pss_one (ps_if (pt_not (pt_val (pe_callB (cr_all rfl) (by rfl) m_all (by decide +kernel) (pa_cons (pe_lc (own := [("_law_other", 11)]) (g := gName 11) (tt := tYes) rfl scLaw.nd (pi_list (pv 10)) (blkOk_by (N := nLaw) (sc := defScope sLaw) (by decide +kernel)) (fun _ _ _ _ _ => pg_name (i := 11) scLaw.nd rfl (Or.inl rfl)) (fun _ _ _ _ _ => pts_nil) (fun _ _ _ _ _ => (pe_and (pe_callG (E := E0) GE gd hr (by rfl) gE FE.kp bE (pa_cons (pv 4) (pa_cons (pv 11) pa_nil))) (pe_one (pe_callG (E := E0) GE gd hr (by rfl) gE FE.kp bE (pa_cons (pv 11) (pa_cons (pv 11) pa_nil))))))) pa_nil)))) (pss_one (ps_ret pe_bl)) pss_nil)))))))))))))
      (pss_one (ps_ret pe_bl)), ?_⟩
    refine ⟨.ref a, rfl, a, _, rfl, .inl hS, 4, _, rfl, 1, _, rfl, rfl, _, rfl, ?_, ?_, ?_⟩
    · rw [List.length_map]; repeat' split <;> omega
    · rw [List.length_map]; repeat' split <;> omega
    refine for_range (lo := 0) (n := _) (fun _ σ H' => ∃ y1 y2 y3 y4 y5 y6 y7 y8 y9 y10 y11, σ = [some (.ref a), y1, y2, y3, y4, y5, y6, y7, y8, y9, y10, y11] ∧ Same H H') ?_ ?_ ?_
    · exact ⟨_, _, _, _, _, _, _, _, _, _, _, rfl, Same.refl H⟩
    rotate_left
    · rintro σ H' ⟨y1, y2, y3, y4, y5, y6, y7, y8, y9, y10, y11, rfl, sm⟩
      exact q H'
    rintro j σ G0 hj ⟨y1, y2, y3, y4, y5, y6, y7, y8, y9, y10, y11, rfl, s0⟩
    have hj4 : j < 6 := by
      refine Nat.lt_of_lt_of_le hj ?_
      rw [List.length_map]; repeat' split <;> omega
    refine ⟨.ref a, rfl, _, rfl, a, ns, 0 + (j : Int), rfl, s0.seq hS, by omega, by omega, fun b H1 nb s1 hB k1 => ?_⟩
    have keep : ∀ {G : Hp}, SX b H1 G → Same H G := fun x c o hc => x c o (ne_of_none (s0 _ _ hc) nb) (s1 _ _ (s0 _ _ hc))
    refine ⟨12, rfl, by decide, by decide, ?_⟩
    refine for_range (lo := 0) (n := 12) (fun i σ H' => ∃ y3 y4 y5 y6 y7 y8 y9 y10 y11, σ = [some (.ref a), some (.int (0 + (j : Int))), some (.ref b), y3, y4, y5, y6, y7, y8, y9, y10, y11] ∧ SX b H1 H' ∧ Box H' b (400 * i)) ?_ ?_ ?_
    · exact ⟨_, _, _, _, _, _, _, _, _, rfl, .refl b H1, hB⟩
    rotate_left
    · rintro σ H3 ⟨y3, y4, y5, y6, y7, y8, y9, y10, y11, rfl, x3, hB3⟩
      exact ⟨_, _, _, _, _, _, _, _, _, _, _, rfl, keep x3⟩
    rintro i σ H2 hi ⟨y3, y4, y5, y6, y7, y8, y9, y10, y11, rfl, x2, hB2⟩
    generalize hN : 400 * i = N at hB2
    have hN' : N ≤ 4800 := by omega
    -- the row
    refine ⟨_, rfl, b, 3, 6, 60, N, rfl, hB2, by omega, by decide, by decide, by decide, by decide, by decide, fun p H3 rs np l1 l2 bd hc hB3 x3 e3 => ?_⟩
    refine ⟨_, rfl, by show 4 ≤ sizeLine; decide, fun l nl => ?_⟩
    obtain ⟨bo3, bz3⟩ := hB3.get
    refine ⟨b, l, N + 100, _, rfl, hB3.new nl, by omega, upd_same, ne_of_none bz3 nl, by decide, by decide, fun tv H4 htv hB4 k4 => ?_⟩
    obtain ⟨t, rfl, t1, t12⟩ : ∃ v : Int, tv = .int v ∧ 1 ≤ v ∧ v ≤ 12 := by
      simp only [List.mem_cons, List.not_mem_nil, or_false] at htv
      rcases htv with h | h | h | h <;> exact ⟨_, h, by decide, by decide⟩
    have x4 : SX b H1 H4 := (x2.trans x3).trans (((SX.of_same (same_upd nl)).trans (.of_eq k4)))
    have npb : p ≠ b := fun z => by
      rw [z] at e3
      rw [bz3] at e3
      obtain ⟨_, _, _, y, _⟩ := hB3
      rw [y] at bz3
      cases bz3
      cases e3
    have e4 : H4 p = some (.tup (rs.map V.int)) := by rw [k4 p npb]; exact same_upd nl _ _ e3
    -- times the row
    refine ⟨_, rfl, p, rfl, ⟨_, SqT.of e4⟩, fun D nD => ?_⟩
    refine lc_pureT (K := K) e4 (by omega) nD (fun _ => true) (fun n => V.int (t * n)) ?_ ?_
    · intro n _ H' Y N sm y1 y0
      exact ⟨rfl, _, rfl, _, rfl, t, n, rfl, rfl, .inl ⟨by omega, by omega⟩, y1 rfl H' (.refl _)⟩
    intro H5 s5 hD
    have eD : ((rs.filter fun _ => true).map fun n => V.int (t * n)) = (rs.map fun n => t * n).map V.int := by
      rw [List.filter_eq_self.mpr (fun _ _ => rfl), List.map_map]; rfl
    rw [eD] at hD
    have hcR : 3 ≤ cnt (rs.map fun n => t * n) := by rw [cnt_mul (by omega)]; omega
    have amR : Am 1000000 8 (rs.map fun n => t * n) := by
      have hb : ∀ n ∈ rs.map (fun n => t * n), 0 ≤ n ∧ n ≤ 12 * 1824 := fun n hn => by
        obtain ⟨z, hz, rfl⟩ := List.mem_map.mp hn
        have h1 := bd z hz
        have u1 : 0 ≤ t * z := Int.mul_nonneg (by omega) (by omega)
        have u2 : t * z ≤ 12 * z := Int.mul_le_mul_of_nonneg_right t12 (by omega)
        omega
      refine ⟨fun n hn => (hb n hn).1, ?_, by rw [List.length_map]; omega, pos_of_cnt (by omega)⟩
      have h1 := sum_le_mul (c := 12 * 1824) (l := rs.map fun n => t * n) fun n hn => (hb n hn).2
      rw [List.length_map] at h1
      have h2 : (rs.length : Int) * (12 * 1824) ≤ 8 * (12 * 1824) := Int.mul_le_mul_of_nonneg_right (by omega) (by decide)
      omega
    have lenR : (rs.map fun n => t * n).length = rs.length := List.length_map _
    generalize (rs.map fun n => t * n) = ws at hD hcR amR lenR
    refine ⟨D, _, rfl, .inl ⟨SqL.of hD, fun pw npw => ?_⟩⟩
    obtain ⟨bo4, bz4⟩ := hB4.get
    have x6 : SX b H1 (upd H5 pw (.tup (ws.map V.int))) := (x4.trans (.of_same s5)).new npw
    have e6 : upd H5 pw (.tup (ws.map V.int)) pw = some (.tup (ws.map V.int)) := upd_same
    have hB6 : Box (upd H5 pw (.tup (ws.map V.int))) b (N + 100 + 1) := (hB4.at (by rw [s5 _ _ bz4, bz4])).new npw
    generalize upd H5 pw (HO.tup (ws.map V.int)) = H6 at x6 e6 hB6 ⊢
    have tB : ∀ {G : Hp} {u : Addr} {xs : List V} {m : Nat}, Box G b m → G u = some (.tup xs) → u ≠ b := fun hb hu z => by
      rw [z] at hu
      obtain ⟨_, _, _, y, _⟩ := hb
      rw [hu] at y
      cases y
    have nwb := tB hB6 e6
    have wl : 3 ≤ ws.length ∧ ws.length ≤ 8 := by omega
    have wsum := amR.sum
    have wsum0 : 0 < ws.sum := by
      obtain ⟨x0, h0, h1⟩ := amR.pos
      have := mem_le_sumG amR.nn x0 h0
      omega
    -- total, many
    refine ⟨_, rfl, pw, ws, rfl, SqT.of e6, _, rfl, _, rfl, pw, _, rfl, .inr (SqT.of e6), b, _, N + 100 + 1, rfl, hB6, by omega, by rw [List.length_map]; omega, by rw [List.length_map]; omega, fun r H7 r0 r1 hB7 k7 => ⟨1, r, rfl, rfl, _, _, rfl, ?_⟩⟩
    rw [List.length_map] at r1
    have x7 : SX b H1 H7 := x6.trans (.of_eq k7)
    have e7 : H7 pw = some (.tup (ws.map V.int)) := by rw [k7 pw nwb]; exact e6
    -- free
    have hmax : ∃ T : Int, (if 1 + r > ws.sum then 1 + r else ws.sum) = T ∧ 1 + r ≤ T ∧ T ≤ 1000010 := ⟨_, rfl, by split <;> omega, by split <;> omega⟩
    obtain ⟨T, eT, T1, T2⟩ := hmax
    refine ⟨_, rfl, _, rfl, _, rfl, _, rfl, ws.sum, 1 + r, rfl, _, rfl, b, T, 1 + r, N + 100 + 1 + 1, ?_, hB7, by omega, by omega, by omega, T1, by omega, fun pa H8 ms np8 ml mb hB8 x8 e8 => ?_⟩
    · show [V.ref b, V.int (if 1 + r > ws.sum then 1 + r else ws.sum), V.int (1 + r)] ++ [] = _
      rw [eT]; rfl
    have e8w : H8 pw = some (.tup (ws.map V.int)) := x8 _ _ nwb e7
    refine ⟨_, rfl, pw, _, rfl, .inr (SqT.of e8w), _, rfl, _, _, rfl, rfl, b, pa, ms, (ws.length : Int) - (1 + r), N + 100 + 1 + 1 + 20, ?_, hB8, by omega, .inl e8, by omega, by omega, by omega, fun pf H9 fs np9 pm9 hB9 x9 e9 => ?_⟩
    · show [V.ref b, V.ref pa, V.int (((ws.map V.int).length : Nat) - (1 + r))] ++ [] = _
      rw [List.length_map]; rfl
    have x9' : SX b H1 H9 := x7.trans (x8.trans x9)
    have e9w := x9 _ _ nwb e8w
    have amF : Am 50000000 8 fs := by
      have hl9 := pm9.length_eq
      rw [List.length_append, List.length_replicate] at hl9
      refine ⟨fun n hn => ?_, ?_, by omega, ?_⟩
      · rcases List.mem_append.mp (pm9.mem_iff.mp hn) with h | h
        · have := mb n h; omega
        · rw [List.eq_of_mem_replicate h]; omega
      · rw [perm_sumG pm9, List.sum_append, zeros_sum]
        have h1 := sum_le_mul (c := T) (l := ms) fun n hn => (mb n hn).2
        have h2 : (ms.length : Int) * T ≤ 8 * T := Int.mul_le_mul_of_nonneg_right (by omega) (by omega)
        omega
      · have h0 : 0 < ms.length := by omega
        exact ⟨ms[0], pm9.mem_iff.mpr (List.mem_append_left _ (List.getElem_mem h0)), by have := mb _ (List.getElem_mem h0); omega⟩
    have nfb := tB hB9 e9
    -- others
    refine ⟨_, rfl, _, rfl, _, rfl, _, rfl, b, pw, ws, 1000000, 8, N + 167, rfl, hB9.le (by omega), by omega, e9w, amR, by decide, by decide, fun c1 G1 m1 nc1 hBg1 xg1 ec1 am1 => ?_⟩
    have n1b := tB hBg1 ec1
    refine ⟨_, rfl, _, rfl, b, pw, ws, 1000000, 8, N + 167 + 20, rfl, hBg1, by omega, xg1 _ _ nwb e9w, amR, by decide, by decide, fun c2 G2 m2 nc2 hBg2 xg2 ec2 am2 => ?_⟩
    have n2b := tB hBg2 ec2
    refine ⟨by show 4 ≤ sizeLine; decide, fun lo nlo => ?_⟩
    have xg3 : SX b H9 (upd G2 lo (.lst [.ref pw, .ref pf, .ref c1, .ref c2])) := (xg1.trans xg2).new nlo
    have e_lo : upd G2 lo (.lst [.ref pw, .ref pf, .ref c1, .ref c2]) lo = some (.lst [.ref pw, .ref pf, .ref c1, .ref c2]) := upd_same
    have hBg3 : Box (upd G2 lo (.lst [.ref pw, .ref pf, .ref c1, .ref c2])) b (N + 167 + 20 + 20) := hBg2.new nlo
    have ec1_3 : upd G2 lo (.lst [.ref pw, .ref pf, .ref c1, .ref c2]) c1 = some (.tup (m1.map V.int)) := same_upd nlo _ _ (xg2 _ _ n1b ec1)
    have ec2_3 : upd G2 lo (.lst [.ref pw, .ref pf, .ref c1, .ref c2]) c2 = some (.tup (m2.map V.int)) := same_upd nlo _ _ ec2
    obtain ⟨bog2, bzg2⟩ := hBg2.get
    have nblo : b ≠ lo := ne_of_none bzg2 nlo
    have nloH : H9 lo = none := (xg1.trans xg2).free hBg2 nlo
    generalize upd G2 lo (HO.lst [.ref pw, .ref pf, .ref c1, .ref c2]) = G3 at xg3 e_lo hBg3 ec1_3 ec2_3 ⊢
    refine ⟨_, rfl, .inl ⟨rfl, _, SqL.of e_lo⟩, _, rfl, _, rfl, 1, rfl, lo, _, -1, .ref c2, rfl, rfl, SqL.of e_lo, atI_neg1 (by show 1 ≤ 4; decide) rfl, b, c2, m2, 2000001, 9, N + 167 + 20 + 20, rfl, hBg3, by omega, ec2_3, am2, by decide, by decide, fun c3 G4 m3 nc3 hBg4 xg4 ec3 am3 => ?_⟩
    have n3b := tB hBg4 ec3
    have e_lo4 := xg4 _ _ nblo.symm e_lo
    have tL : ∀ {G : Hp} {u : Addr} {xs ys : List V}, G lo = some (.lst ys) → G u = some (.tup xs) → u ≠ lo := fun hb hu z => by
      rw [z, hb] at hu
      cases hu
    refine ⟨lo, _, _, rfl, rfl, e_lo4, by show 4 < sizeLine; decide, ?_⟩
    let us : List Addr := [pw, pf, c1, c2, c3]
    have rows : ∀ u ∈ us, ∃ os : List Int, upd G4 lo (.lst ([.ref pw, .ref pf, .ref c1, .ref c2] ++ [.ref c3])) u = some (.tup (os.map V.int)) ∧ Am 50000000 10 os := by
      have up : ∀ {u : Addr} {os : List Int}, G4 u = some (.tup (os.map V.int)) → upd G4 lo (.lst ([.ref pw, .ref pf, .ref c1, .ref c2] ++ [.ref c3])) u = some (.tup (os.map V.int)) := fun h => by rw [upd_ne (tL e_lo4 h)]; exact h
      intro u hu
      have hu' : u = pw ∨ u = pf ∨ u = c1 ∨ u = c2 ∨ u = c3 := by
        simpa [us] using hu
      rcases hu' with rfl | rfl | rfl | rfl | rfl
      · exact ⟨ws, up (xg4 _ _ nwb (xg3 _ _ nwb e9w)), amR.le (by decide) (by decide)⟩
      · exact ⟨fs, up (xg4 _ _ nfb (xg3 _ _ nfb e9)), amF.le (by decide) (by decide)⟩
      · exact ⟨m1, up (xg4 _ _ n1b ec1_3), am1.le (by decide) (by decide)⟩
      · exact ⟨m2, up (xg4 _ _ n2b ec2_3), am2.le (by decide) (by decide)⟩
      · exact ⟨m3, up ec3, am3.le (by decide) (by decide)⟩
    have e_w5 : upd G4 lo (.lst ([.ref pw, .ref pf, .ref c1, .ref c2] ++ [.ref c3])) pw = some (.tup (ws.map V.int)) := by
      have h := xg4 _ _ nwb (xg3 _ _ nwb e9w)
      rw [upd_ne (tL e_lo4 h)]; exact h
    have e_lo5 : upd G4 lo (.lst ([.ref pw, .ref pf, .ref c1, .ref c2] ++ [.ref c3])) lo = some (.lst (us.map V.ref)) := upd_same
    have x5 : SX b H1 (upd G4 lo (.lst ([.ref pw, .ref pf, .ref c1, .ref c2] ++ [.ref c3]))) := x9'.trans ((xg3.trans xg4).set nloH)
    have hB5 : Box (upd G4 lo (.lst ([.ref pw, .ref pf, .ref c1, .ref c2] ++ [.ref c3]))) b (N + 227) := (hBg4.set nblo).le (by omega)
    have us5 : us.length = 5 := rfl
    generalize upd G4 lo (HO.lst ([.ref pw, .ref pf, .ref c1, .ref c2] ++ [.ref c3])) = G5 at rows e_w5 e_lo5 x5 hB5 ⊢
    clear_value us
    refine ⟨_, rfl, lo, rfl, ⟨_, SqL.of e_lo5⟩, fun D2 nD2 => ?_⟩
    refine lc_list (K := K) (a := lo) (xs := us.map V.ref) (fun m H' => Same G5 H' ∧ H' D2 = some (.lst ((List.replicate m true).map V.bl))) ⟨same_upd nD2, upd_same⟩ ?_ ?_ ?_
    · rintro m H' _ ⟨sm, _⟩
      exact SqL.of (sm _ _ e_lo5)
    · rintro m x H' hx ⟨sm, hD2⟩
      rw [List.getElem?_map] at hx
      obtain ⟨u, hu, rfl⟩ := Option.map_eq_some_iff.mp hx
      have hm : m < us.length := (List.getElem?_eq_some_iff.mp hu).1
      obtain ⟨os, eu, amo⟩ := rows u (List.mem_of_getElem? hu)
      refine ⟨rfl, _, rfl, _, rfl, pw, u, ws, os, rfl, amR.row (by decide) (by decide) (sm _ _ e_w5), amo.row (by decide) (by decide) (sm _ _ eu), .inr (by rw [← cnt_hold]; exact hcR), fun H6' s6' => ⟨_, rfl, ?_⟩⟩
      refine iteT ⟨_, rfl, _, rfl, u, u, os, os, rfl, amo.row (by decide) (by decide) (s6' _ _ (sm _ _ eu)), amo.row (by decide) (by decide) (s6' _ _ (sm _ _ eu)), .inl rfl, fun H7' s7' => ?_⟩
      refine ⟨_, s7' _ _ (s6' _ _ hD2), by rw [List.length_map, List.length_replicate]; exact small1000 (by omega), ?_, ?_⟩
      · intro c o hc
        rw [upd_ne (ne_of_none hc nD2)]
        exact s7' _ _ (s6' _ _ (sm c o hc))
      · rw [upd_same, List.replicate_succ', List.map_append]; rfl
    rintro H6' ⟨s6', hD2⟩
    rw [List.length_map] at hD2
    refine ⟨D2, List.replicate us.length true, rfl, SqL.of hD2, _, rfl, ?_⟩
    have hall : (List.replicate us.length true).all id = true := by
      rw [List.all_eq_true]
      intro x hx
      rw [List.eq_of_mem_replicate hx]; rfl
    rw [hall]
    obtain ⟨bo5, bz5⟩ := hB5.get
    exact iteF ⟨_, _, _, _, _, _, _, _, _, rfl, x5.trans (.of_same s6'), (hB5.at (by rw [s6' _ _ bz5, bz5])).le (by omega)⟩
end
end K15

namespace K15
open PySem PySem.Spec PyProof.Rows L2 MG
theorem all_mk {l : PySem.W.OpenLaw} {w : World} {K : PySem.W.Frag} {h : Heap} {mg : Str → Option Value} {fa : Addr} (X : K.In h) (G : h.Ns mainGlobals mg) (hfa : mg "law" = some (.ref fa))
    {fTwosIn : Addr} {odTwosIn anTwosIn : Option Addr} {slTwosIn : Array (Option Value)} {ocTwosIn kVTwosIn dcTwosIn pmTwosIn cdTwosIn ctTwosIn : Value}
    (aTwosIn : PySem.W.nsIn K mainGlobals "twos_in" = some (some (.ref fTwosIn))) (lTwosIn : K.lookup fTwosIn = some ⟨ocTwosIn, odTwosIn, .func (PySem.W.fnOf "twos_in" "twos_in" (defArgs sTwosIn) (defBody sTwosIn) (defScope sTwosIn) .none kVTwosIn dcTwosIn pmTwosIn anTwosIn cdTwosIn ctTwosIn), slTwosIn⟩) (cTwosIn : PySem.W.codeIn K cdTwosIn "twos_in" = true) (kTwosIn : PySem.W.keepIn K (.ref fTwosIn) = true)
    {fOddPart : Addr} {odOddPart anOddPart : Option Addr} {slOddPart : Array (Option Value)} {ocOddPart kVOddPart dcOddPart pmOddPart cdOddPart ctOddPart : Value}
    (aOddPart : PySem.W.nsIn K mainGlobals "odd_part" = some (some (.ref fOddPart))) (lOddPart : K.lookup fOddPart = some ⟨ocOddPart, odOddPart, .func (PySem.W.fnOf "odd_part" "odd_part" (defArgs sOddPart) (defBody sOddPart) (defScope sOddPart) .none kVOddPart dcOddPart pmOddPart anOddPart cdOddPart ctOddPart), slOddPart⟩) (cOddPart : PySem.W.codeIn K cdOddPart "odd_part" = true) (kOddPart : PySem.W.keepIn K (.ref fOddPart) = true)
    {fCommon : Addr} {odCommon anCommon : Option Addr} {slCommon : Array (Option Value)} {ocCommon kVCommon dcCommon pmCommon cdCommon ctCommon : Value}
    (aCommon : PySem.W.nsIn K mainGlobals "common_part" = some (some (.ref fCommon))) (lCommon : K.lookup fCommon = some ⟨ocCommon, odCommon, .func (PySem.W.fnOf "common_part" "common_part" (defArgs sCommon) (defBody sCommon) (defScope sCommon) .none kVCommon dcCommon pmCommon anCommon cdCommon ctCommon), slCommon⟩) (cCommon : PySem.W.codeIn K cdCommon "common_part" = true) (kCommon : PySem.W.keepIn K (.ref fCommon) = true)
    {fUnit : Addr} {odUnit anUnit : Option Addr} {slUnit : Array (Option Value)} {ocUnit kVUnit dcUnit pmUnit cdUnit ctUnit : Value}
    (aUnit : PySem.W.nsIn K mainGlobals "unit" = some (some (.ref fUnit))) (lUnit : K.lookup fUnit = some ⟨ocUnit, odUnit, .func (PySem.W.fnOf "unit" "unit" (defArgs sUnit) (defBody sUnit) (defScope sUnit) .none kVUnit dcUnit pmUnit anUnit cdUnit ctUnit), slUnit⟩) (cUnit : PySem.W.codeIn K cdUnit "unit" = true) (kUnit : PySem.W.keepIn K (.ref fUnit) = true)
    {fMeasure : Addr} {odMeasure anMeasure : Option Addr} {slMeasure : Array (Option Value)} {ocMeasure kVMeasure dcMeasure pmMeasure cdMeasure ctMeasure : Value}
    (aMeasure : PySem.W.nsIn K mainGlobals "measure" = some (some (.ref fMeasure))) (lMeasure : K.lookup fMeasure = some ⟨ocMeasure, odMeasure, .func (PySem.W.fnOf "measure" "measure" (defArgs sMeasure) (defBody sMeasure) (defScope sMeasure) .none kVMeasure dcMeasure pmMeasure anMeasure cdMeasure ctMeasure), slMeasure⟩) (cMeasure : PySem.W.codeIn K cdMeasure "measure" = true) (kMeasure : PySem.W.keepIn K (.ref fMeasure) = true)
    {fTwos : Addr} {odTwos anTwos : Option Addr} {slTwos : Array (Option Value)} {ocTwos kVTwos dcTwos pmTwos cdTwos ctTwos : Value}
    (aTwos : PySem.W.nsIn K mainGlobals "twos" = some (some (.ref fTwos))) (lTwos : K.lookup fTwos = some ⟨ocTwos, odTwos, .func (PySem.W.fnOf "twos" "twos" (defArgs sTwos) (defBody sTwos) (defScope sTwos) .none kVTwos dcTwos pmTwos anTwos cdTwos ctTwos), slTwos⟩) (cTwos : PySem.W.codeIn K cdTwos "twos" = true) (kTwos : PySem.W.keepIn K (.ref fTwos) = true)
    {fOddOnes : Addr} {odOddOnes anOddOnes : Option Addr} {slOddOnes : Array (Option Value)} {ocOddOnes kVOddOnes dcOddOnes pmOddOnes cdOddOnes ctOddOnes : Value}
    (aOddOnes : PySem.W.nsIn K mainGlobals "odd_ones" = some (some (.ref fOddOnes))) (lOddOnes : K.lookup fOddOnes = some ⟨ocOddOnes, odOddOnes, .func (PySem.W.fnOf "odd_ones" "odd_ones" (defArgs sOddOnes) (defBody sOddOnes) (defScope sOddOnes) .none kVOddOnes dcOddOnes pmOddOnes anOddOnes cdOddOnes ctOddOnes), slOddOnes⟩) (cOddOnes : PySem.W.codeIn K cdOddOnes "odd_ones" = true) (kOddOnes : PySem.W.keepIn K (.ref fOddOnes) = true)
    {fHol : Addr} {odHol anHol : Option Addr} {slHol : Array (Option Value)} {ocHol kVHol dcHol pmHol cdHol ctHol : Value}
    (aHol : PySem.W.nsIn K mainGlobals "holders" = some (some (.ref fHol))) (lHol : K.lookup fHol = some ⟨ocHol, odHol, .func (PySem.W.fnOf "holders" "holders" (defArgs sHolders) (defBody sHolders) (defScope sHolders) .none kVHol dcHol pmHol anHol cdHol ctHol), slHol⟩) (cHol : PySem.W.codeIn K cdHol "holders" = true) (kHol : PySem.W.keepIn K (.ref fHol) = true)
    {fHfn : Addr} {odHfn anHfn : Option Addr} {slHfn : Array (Option Value)} {ocHfn kVHfn dcHfn pmHfn cdHfn ctHfn : Value}
    (aHfn : PySem.W.nsIn K mainGlobals "has_from_nothing" = some (some (.ref fHfn))) (lHfn : K.lookup fHfn = some ⟨ocHfn, odHfn, .func (PySem.W.fnOf "has_from_nothing" "has_from_nothing" (defArgs sHfn) (defBody sHfn) (defScope sHfn) .none kVHfn dcHfn pmHfn anHfn cdHfn ctHfn), slHfn⟩) (cHfn : PySem.W.codeIn K cdHfn "has_from_nothing" = true) (kHfn : PySem.W.keepIn K (.ref fHfn) = true)
    {fAsked : Addr} {odAsked anAsked : Option Addr} {slAsked : Array (Option Value)} {ocAsked kVAsked dcAsked pmAsked cdAsked ctAsked : Value}
    (aAsked : PySem.W.nsIn K mainGlobals "asked_of_any" = some (some (.ref fAsked))) (lAsked : K.lookup fAsked = some ⟨ocAsked, odAsked, .func (PySem.W.fnOf "asked_of_any" "asked_of_any" (defArgs sAsked) (defBody sAsked) (defScope sAsked) .none kVAsked dcAsked pmAsked anAsked cdAsked ctAsked), slAsked⟩) (cAsked : PySem.W.codeIn K cdAsked "asked_of_any" = true) (kAsked : PySem.W.keepIn K (.ref fAsked) = true)
    {fBroken : Addr} {odBroken anBroken : Option Addr} {slBroken : Array (Option Value)} {ocBroken kVBroken dcBroken pmBroken cdBroken ctBroken : Value}
    (aBroken : PySem.W.nsIn K mainGlobals "broken" = some (some (.ref fBroken))) (lBroken : K.lookup fBroken = some ⟨ocBroken, odBroken, .func (PySem.W.fnOf "broken" "broken" (defArgs sBroken) (defBody sBroken) (defScope sBroken) .none kVBroken dcBroken pmBroken anBroken cdBroken ctBroken), slBroken⟩) (cBroken : PySem.W.codeIn K cdBroken "broken" = true) (kBroken : PySem.W.keepIn K (.ref fBroken) = true)
    {fComes : Addr} {odComes anComes : Option Addr} {slComes : Array (Option Value)} {ocComes kVComes dcComes pmComes cdComes ctComes : Value}
    (aComes : PySem.W.nsIn K mainGlobals "comes" = some (some (.ref fComes))) (lComes : K.lookup fComes = some ⟨ocComes, odComes, .func (PySem.W.fnOf "comes" "comes" (defArgs sComes) (defBody sComes) (defScope sComes) .none kVComes dcComes pmComes anComes cdComes ctComes), slComes⟩) (cComes : PySem.W.codeIn K cdComes "comes" = true) (kComes : PySem.W.keepIn K (.ref fComes) = true)
    {fBox : Addr} {odBox anBox : Option Addr} {slBox : Array (Option Value)} {ocBox kVBox dcBox pmBox cdBox ctBox : Value}
    (aBox : PySem.W.nsIn K mainGlobals "_law_box" = some (some (.ref fBox))) (lBox : K.lookup fBox = some ⟨ocBox, odBox, .func (PySem.W.fnOf "_law_box" "_law_box" (defArgs sBox) (defBody sBox) (defScope sBox) .none kVBox dcBox pmBox anBox cdBox ctBox), slBox⟩) (cBox : PySem.W.codeIn K cdBox "_law_box" = true) (kBox : PySem.W.keepIn K (.ref fBox) = true)
    {fTake : Addr} {odTake anTake : Option Addr} {slTake : Array (Option Value)} {ocTake kVTake dcTake pmTake cdTake ctTake : Value}
    (aTake : PySem.W.nsIn K mainGlobals "_law_take" = some (some (.ref fTake))) (lTake : K.lookup fTake = some ⟨ocTake, odTake, .func (PySem.W.fnOf "_law_take" "_law_take" (defArgs sTake) (defBody sTake) (defScope sTake) .none kVTake dcTake pmTake anTake cdTake ctTake), slTake⟩) (cTake : PySem.W.codeIn K cdTake "_law_take" = true) (kTake : PySem.W.keepIn K (.ref fTake) = true)
    {fOf : Addr} {odOf anOf : Option Addr} {slOf : Array (Option Value)} {ocOf kVOf dcOf pmOf cdOf ctOf : Value}
    (aOf : PySem.W.nsIn K mainGlobals "_law_of" = some (some (.ref fOf))) (lOf : K.lookup fOf = some ⟨ocOf, odOf, .func (PySem.W.fnOf "_law_of" "_law_of" (defArgs sOf) (defBody sOf) (defScope sOf) .none kVOf dcOf pmOf anOf cdOf ctOf), slOf⟩) (cOf : PySem.W.codeIn K cdOf "_law_of" = true) (kOf : PySem.W.keepIn K (.ref fOf) = true)
    {fSplit : Addr} {odSplit anSplit : Option Addr} {slSplit : Array (Option Value)} {ocSplit kVSplit dcSplit pmSplit cdSplit ctSplit : Value}
    (aSplit : PySem.W.nsIn K mainGlobals "_law_split" = some (some (.ref fSplit))) (lSplit : K.lookup fSplit = some ⟨ocSplit, odSplit, .func (PySem.W.fnOf "_law_split" "_law_split" (defArgs sSplit) (defBody sSplit) (defScope sSplit) .none kVSplit dcSplit pmSplit anSplit cdSplit ctSplit), slSplit⟩) (cSplit : PySem.W.codeIn K cdSplit "_law_split" = true) (kSplit : PySem.W.keepIn K (.ref fSplit) = true)
    {fPlaces : Addr} {odPlaces anPlaces : Option Addr} {slPlaces : Array (Option Value)} {ocPlaces kVPlaces dcPlaces pmPlaces cdPlaces ctPlaces : Value}
    (aPlaces : PySem.W.nsIn K mainGlobals "_law_places" = some (some (.ref fPlaces))) (lPlaces : K.lookup fPlaces = some ⟨ocPlaces, odPlaces, .func (PySem.W.fnOf "_law_places" "_law_places" (defArgs sPlaces) (defBody sPlaces) (defScope sPlaces) .none kVPlaces dcPlaces pmPlaces anPlaces cdPlaces ctPlaces), slPlaces⟩) (cPlaces : PySem.W.codeIn K cdPlaces "_law_places" = true) (kPlaces : PySem.W.keepIn K (.ref fPlaces) = true)
    {fLine : Addr} {odLine anLine : Option Addr} {slLine : Array (Option Value)} {ocLine kVLine dcLine pmLine cdLine ctLine : Value}
    (aLine : PySem.W.nsIn K mainGlobals "_law_row" = some (some (.ref fLine))) (lLine : K.lookup fLine = some ⟨ocLine, odLine, .func (PySem.W.fnOf "_law_row" "_law_row" (defArgs sLine) (defBody sLine) (defScope sLine) .none kVLine dcLine pmLine anLine cdLine ctLine), slLine⟩) (cLine : PySem.W.codeIn K cdLine "_law_row" = true) (kLine : PySem.W.keepIn K (.ref fLine) = true)
    {fStays : Addr} {odStays anStays : Option Addr} {slStays : Array (Option Value)} {ocStays kVStays dcStays pmStays cdStays ctStays : Value}
    (aStays : PySem.W.nsIn K mainGlobals "_law_stays" = some (some (.ref fStays))) (lStays : K.lookup fStays = some ⟨ocStays, odStays, .func (PySem.W.fnOf "_law_stays" "_law_stays" (defArgs sStays) (defBody sStays) (defScope sStays) .none kVStays dcStays pmStays anStays cdStays ctStays), slStays⟩) (cStays : PySem.W.codeIn K cdStays "_law_stays" = true) (kStays : PySem.W.keepIn K (.ref fStays) = true)
    {fDeed : Addr} {odDeed anDeed : Option Addr} {slDeed : Array (Option Value)} {ocDeed kVDeed dcDeed pmDeed cdDeed ctDeed : Value}
    (aDeed : PySem.W.nsIn K mainGlobals "_law_deed" = some (some (.ref fDeed))) (lDeed : K.lookup fDeed = some ⟨ocDeed, odDeed, .func (PySem.W.fnOf "_law_deed" "_law_deed" (defArgs sDeed) (defBody sDeed) (defScope sDeed) .none kVDeed dcDeed pmDeed anDeed cdDeed ctDeed), slDeed⟩) (cDeed : PySem.W.codeIn K cdDeed "_law_deed" = true) (kDeed : PySem.W.keepIn K (.ref fDeed) = true)
    {fNext : Addr} {odNext anNext : Option Addr} {slNext : Array (Option Value)} {ocNext kVNext dcNext pmNext cdNext ctNext : Value}
    (aNext : PySem.W.nsIn K mainGlobals "_law_next" = some (some (.ref fNext))) (lNext : K.lookup fNext = some ⟨ocNext, odNext, .func (PySem.W.fnOf "_law_next" "_law_next" (defArgs sNext) (defBody sNext) (defScope sNext) .none kVNext dcNext pmNext anNext cdNext ctNext), slNext⟩) (cNext : PySem.W.codeIn K cdNext "_law_next" = true) (kNext : PySem.W.keepIn K (.ref fNext) = true)
    {fDue : Addr} {odDue anDue : Option Addr} {slDue : Array (Option Value)} {ocDue kVDue dcDue pmDue cdDue ctDue : Value}
    (aDue : PySem.W.nsIn K mainGlobals "_law_due" = some (some (.ref fDue))) (lDue : K.lookup fDue = some ⟨ocDue, odDue, .func (PySem.W.fnOf "_law_due" "_law_due" (defArgs sDue) (defBody sDue) (defScope sDue) .none kVDue dcDue pmDue anDue cdDue ctDue), slDue⟩) (cDue : PySem.W.codeIn K cdDue "_law_due" = true) (kDue : PySem.W.keepIn K (.ref fDue) = true)
    {fChanged : Addr} {odChanged anChanged : Option Addr} {slChanged : Array (Option Value)} {ocChanged kVChanged dcChanged pmChanged cdChanged ctChanged : Value}
    (aChanged : PySem.W.nsIn K mainGlobals "_law_changed" = some (some (.ref fChanged))) (lChanged : K.lookup fChanged = some ⟨ocChanged, odChanged, .func (PySem.W.fnOf "_law_changed" "_law_changed" (defArgs sChanged) (defBody sChanged) (defScope sChanged) .none kVChanged dcChanged pmChanged anChanged cdChanged ctChanged), slChanged⟩) (cChanged : PySem.W.codeIn K cdChanged "_law_changed" = true) (kChanged : PySem.W.keepIn K (.ref fChanged) = true)
    {fRight : Addr} {odRight anRight : Option Addr} {slRight : Array (Option Value)} {ocRight kVRight dcRight pmRight cdRight ctRight : Value}
    (aRight : PySem.W.nsIn K mainGlobals "_law_right" = some (some (.ref fRight))) (lRight : K.lookup fRight = some ⟨ocRight, odRight, .func (PySem.W.fnOf "_law_right" "_law_right" (defArgs sRight) (defBody sRight) (defScope sRight) .none kVRight dcRight pmRight anRight cdRight ctRight), slRight⟩) (cRight : PySem.W.codeIn K cdRight "_law_right" = true) (kRight : PySem.W.keepIn K (.ref fRight) = true)
    {fLaw : Addr} {odLaw anLaw : Option Addr} {slLaw : Array (Option Value)} {ocLaw kVLaw dcLaw pmLaw cdLaw ctLaw : Value}
    (aLaw : PySem.W.nsIn K mainGlobals "law" = some (some (.ref fLaw))) (lLaw : K.lookup fLaw = some ⟨ocLaw, odLaw, .func (PySem.W.fnOf "law" "law" (defArgs sLaw) (defBody sLaw) (defScope sLaw) .none kVLaw dcLaw pmLaw anLaw cdLaw ctLaw), slLaw⟩) (cLaw : PySem.W.codeIn K cdLaw "law" = true) (kLaw : PySem.W.keepIn K (.ref fLaw) = true)
    (z_len : PySem.W.nsIn K mainGlobals "len" = some none)
    (z_abs : PySem.W.nsIn K mainGlobals "abs" = some none)
    (z_int : PySem.W.nsIn K mainGlobals "int" = some none)
    (z_range : PySem.W.nsIn K mainGlobals "range" = some none)
    (z_list : PySem.W.nsIn K mainGlobals "list" = some none)
    (z_tuple : PySem.W.nsIn K mainGlobals "tuple" = some none)
    (z_min : PySem.W.nsIn K mainGlobals "min" = some none)
    (z_max : PySem.W.nsIn K mainGlobals "max" = some none)
    (z_sum : PySem.W.nsIn K mainGlobals "sum" = some none)
    (z_any : PySem.W.nsIn K mainGlobals "any" = some none)
    (z_all : PySem.W.nsIn K mainGlobals "all" = some none)
    (z_zip : PySem.W.nsIn K mainGlobals "zip" = some none)
    (z_enumerate : PySem.W.nsIn K mainGlobals "enumerate" = some none)
    (z_repr : PySem.W.nsIn K mainGlobals "repr" = some none)
    : ∃ fd : FuncData, (∀ (s : Shared) (v : Value), BindsTo s fd ⟨[v], []⟩ [("_law_script", v)]) ∧ ∀ base : Heap, K.In base → base.Ns mainGlobals mg → SysD base → FnG l.prog w K mg base 9 fa fd ["_law_script"] (spLaw K) := by
  have e := hfa.symm.trans (PySem.W.mg_of X G aLaw)
  cases e
  have FTwosIn := fun_mk (st := sTwosIn) lTwosIn cTwosIn kTwosIn
  have bTwosIn := FTwosIn.binds (ps := ["n"]) fun _ _ _ _ _ _ us hl => match us, hl with | [_], _ => rfl
  have gTwosIn := PySem.W.mg_of X G aTwosIn
  have FOddPart := fun_mk (st := sOddPart) lOddPart cOddPart kOddPart
  have bOddPart := FOddPart.binds (ps := ["n"]) fun _ _ _ _ _ _ us hl => match us, hl with | [_], _ => rfl
  have gOddPart := PySem.W.mg_of X G aOddPart
  have FCommon := fun_mk (st := sCommon) lCommon cCommon kCommon
  have bCommon := FCommon.binds (ps := ["a", "b"]) fun _ _ _ _ _ _ us hl => match us, hl with | [_, _], _ => rfl
  have gCommon := PySem.W.mg_of X G aCommon
  have FUnit := fun_mk (st := sUnit) lUnit cUnit kUnit
  have bUnit := FUnit.binds (ps := ["row"]) fun _ _ _ _ _ _ us hl => match us, hl with | [_], _ => rfl
  have gUnit := PySem.W.mg_of X G aUnit
  have FMeasure := fun_mk (st := sMeasure) lMeasure cMeasure kMeasure
  have bMeasure := FMeasure.binds (ps := ["row"]) fun _ _ _ _ _ _ us hl => match us, hl with | [_], _ => rfl
  have gMeasure := PySem.W.mg_of X G aMeasure
  have FTwos := fun_mk (st := sTwos) lTwos cTwos kTwos
  have bTwos := FTwos.binds (ps := ["row"]) fun _ _ _ _ _ _ us hl => match us, hl with | [_], _ => rfl
  have gTwos := PySem.W.mg_of X G aTwos
  have FOddOnes := fun_mk (st := sOddOnes) lOddOnes cOddOnes kOddOnes
  have bOddOnes := FOddOnes.binds (ps := ["row"]) fun _ _ _ _ _ _ us hl => match us, hl with | [_], _ => rfl
  have gOddOnes := PySem.W.mg_of X G aOddOnes
  have FHol := fun_mk (st := sHolders) lHol cHol kHol
  have bHol := FHol.binds (ps := ["row"]) fun _ _ _ _ _ _ us hl => match us, hl with | [_], _ => rfl
  have gHol := PySem.W.mg_of X G aHol
  have FHfn := fun_mk (st := sHfn) lHfn cHfn kHfn
  have bHfn := FHfn.binds (ps := ["row", "other"]) fun _ _ _ _ _ _ us hl => match us, hl with | [_, _], _ => rfl
  have gHfn := PySem.W.mg_of X G aHfn
  have FAsked := fun_mk (st := sAsked) lAsked cAsked kAsked
  have bAsked := FAsked.binds (ps := ["row", "other"]) fun _ _ _ _ _ _ us hl => match us, hl with | [_, _], _ => rfl
  have gAsked := PySem.W.mg_of X G aAsked
  have FBroken := fun_mk (st := sBroken) lBroken cBroken kBroken
  have bBroken := FBroken.binds (ps := ["row", "other"]) fun _ _ _ _ _ _ us hl => match us, hl with | [_, _], _ => rfl
  have gBroken := PySem.W.mg_of X G aBroken
  have FComes := fun_mk (st := sComes) lComes cComes kComes
  have bComes := FComes.binds (ps := ["row", "other"]) fun _ _ _ _ _ _ us hl => match us, hl with | [_, _], _ => rfl
  have gComes := PySem.W.mg_of X G aComes
  have FBox := fun_mk (st := sBox) lBox cBox kBox
  have bBox := FBox.binds (ps := ["_law_script", "_law_k"]) fun _ _ _ _ _ _ us hl => match us, hl with | [_, _], _ => rfl
  have gBox := PySem.W.mg_of X G aBox
  have FTake := fun_mk (st := sTake) lTake cTake kTake
  have bTake := FTake.binds (ps := ["_law_box_here", "_law_many"]) fun _ _ _ _ _ _ us hl => match us, hl with | [_, _], _ => rfl
  have gTake := PySem.W.mg_of X G aTake
  have FOf := fun_mk (st := sOf) lOf cOf kOf
  have bOf := FOf.binds (ps := ["_law_box_here", "_law_some"]) fun _ _ _ _ _ _ us hl => match us, hl with | [_, _], _ => rfl
  have gOf := PySem.W.mg_of X G aOf
  have FSplit := fun_mk (st := sSplit) lSplit cSplit kSplit
  have bSplit := FSplit.binds (ps := ["_law_box_here", "_law_total", "_law_many"]) fun _ _ _ _ _ _ us hl => match us, hl with | [_, _, _], _ => rfl
  have gSplit := PySem.W.mg_of X G aSplit
  have FPlaces := fun_mk (st := sPlaces) lPlaces cPlaces kPlaces
  have bPlaces := FPlaces.binds (ps := ["_law_box_here", "_law_amounts", "_law_nothing"]) fun _ _ _ _ _ _ us hl => match us, hl with | [_, _, _], _ => rfl
  have gPlaces := PySem.W.mg_of X G aPlaces
  have FLine := fun_mk (st := sLine) lLine cLine kLine
  have bLine := FLine.binds (ps := ["_law_box_here", "_law_least", "_law_greatest", "_law_most"]) fun _ _ _ _ _ _ us hl => match us, hl with | [_, _, _, _], _ => rfl
  have gLine := PySem.W.mg_of X G aLine
  have FStays := fun_mk (st := sStays) lStays cStays kStays
  have bStays := FStays.binds (ps := ["_law_row_here"]) fun _ _ _ _ _ _ us hl => match us, hl with | [_], _ => rfl
  have gStays := PySem.W.mg_of X G aStays
  have FDeed := fun_mk (st := sDeed) lDeed cDeed kDeed
  have bDeed := FDeed.binds (ps := ["_law_row_here", "_law_i", "_law_j"]) fun _ _ _ _ _ _ us hl => match us, hl with | [_, _, _], _ => rfl
  have gDeed := PySem.W.mg_of X G aDeed
  have FNext := fun_mk (st := sNext) lNext cNext kNext
  have bNext := FNext.binds (ps := ["_law_row_here"]) fun _ _ _ _ _ _ us hl => match us, hl with | [_], _ => rfl
  have gNext := PySem.W.mg_of X G aNext
  have FDue := fun_mk (st := sDue) lDue cDue kDue
  have bDue := FDue.binds (ps := ["_law_row_here", "_law_other"]) fun _ _ _ _ _ _ us hl => match us, hl with | [_, _], _ => rfl
  have gDue := PySem.W.mg_of X G aDue
  have FChanged := fun_mk (st := sChanged) lChanged cChanged kChanged
  have bChanged := FChanged.binds (ps := ["_law_box_here", "_law_row_here"]) fun _ _ _ _ _ _ us hl => match us, hl with | [_, _], _ => rfl
  have gChanged := PySem.W.mg_of X G aChanged
  have FRight := fun_mk (st := sRight) lRight cRight kRight
  have bRight := FRight.binds (ps := ["_law_row_here", "_law_other"]) fun _ _ _ _ _ _ us hl => match us, hl with | [_, _], _ => rfl
  have gRight := PySem.W.mg_of X G aRight
  have FLaw := fun_mk (st := sLaw) lLaw cLaw kLaw
  have m_len := PySem.W.mg_none_of X G z_len
  have m_abs := PySem.W.mg_none_of X G z_abs
  have m_int := PySem.W.mg_none_of X G z_int
  have m_range := PySem.W.mg_none_of X G z_range
  have m_list := PySem.W.mg_none_of X G z_list
  have m_tuple := PySem.W.mg_none_of X G z_tuple
  have m_min := PySem.W.mg_none_of X G z_min
  have m_max := PySem.W.mg_none_of X G z_max
  have m_sum := PySem.W.mg_none_of X G z_sum
  have m_any := PySem.W.mg_none_of X G z_any
  have m_all := PySem.W.mg_none_of X G z_all
  have m_zip := PySem.W.mg_none_of X G z_zip
  have m_enumerate := PySem.W.mg_none_of X G z_enumerate
  have m_repr := PySem.W.mg_none_of X G z_repr
  refine ⟨PySem.W.fnOf "law" "law" (defArgs sLaw) (defBody sLaw) (defScope sLaw) .none kVLaw dcLaw pmLaw anLaw cdLaw ctLaw, fun s v => .of_eq rfl, fun base _ _ sys => ?_⟩
  have GTwosIn := ok_twosIn (mg := mg) (P := l.prog) (w := w) (base := base) (k := 0) FTwosIn
  have GOddPart := ok_oddPart (P := l.prog) (w := w) (base := base) (k := 0) FOddPart FTwosIn bTwosIn gTwosIn
  have GUnit := ok_unit (P := l.prog) (w := w) (base := base) (k := 0) FUnit FCommon bCommon gCommon
  have GMeasure := ok_measure (P := l.prog) (w := w) (base := base) (k := 0) FMeasure FOddPart bOddPart gOddPart GOddPart FUnit bUnit gUnit GUnit
  have GTwos := ok_twos (P := l.prog) (w := w) (base := base) (k := 0) FTwos FTwosIn bTwosIn gTwosIn GTwosIn FUnit bUnit gUnit GUnit
  have GOddOnes := ok_oddOnes (P := l.prog) (w := w) (base := base) (k := 0) FOddOnes FTwosIn bTwosIn gTwosIn GTwosIn FTwos bTwos gTwos GTwos m_len
  have GHol := ok_holders (P := l.prog) (w := w) (base := base) (k := 0) FHol m_tuple m_enumerate
  have GHfn := ok_hfn (P := l.prog) (w := w) (base := base) (k := 0) FHfn m_any m_zip
  have GAsked := ok_asked (P := l.prog) (w := w) (base := base) (k := 0) FAsked FTwos bTwos gTwos GTwos FHfn bHfn gHfn GHfn FMeasure bMeasure gMeasure GMeasure FOddOnes bOddOnes gOddOnes GOddOnes FHol bHol gHol GHol m_sum m_len
  have GBroken := ok_broken (P := l.prog) (w := w) (base := base) (k := 0) FBroken FAsked bAsked gAsked GAsked FHol bHol gHol GHol m_len m_tuple
  have GComes := ok_comes (P := l.prog) (w := w) (base := base) (k := 0) FComes FBroken bBroken gBroken GBroken
  have GBox := ok_box (P := l.prog) (w := w) (base := base) (k := 0) FBox m_len m_abs m_int
  have GSplit := ok_split (P := l.prog) (w := w) (base := base) (k := 0) FSplit FTake bTake gTake m_range
  have GPlaces := ok_places (P := l.prog) (w := w) (base := base) (k := 0) FPlaces FTake bTake gTake m_len m_list m_tuple
  have GLine := ok_line (P := l.prog) (w := w) (base := base) (k := 0) FLine FTake bTake gTake FOf bOf gOf FSplit bSplit gSplit GSplit FPlaces bPlaces gPlaces GPlaces m_len m_max
  have GStays := ok_stays (P := l.prog) (w := w) (base := base) (k := 0) FStays m_len m_sum
  have GDeed := ok_deedL (mg := mg) (P := l.prog) (w := w) (base := base) (k := 0) FDeed m_list m_tuple
  have GNext := ok_next (P := l.prog) (w := w) (base := base) (k := 0) FNext FDeed bDeed gDeed GDeed m_len m_range
  have GDue := ok_due (P := l.prog) (w := w) (base := base) (k := 0) FDue FStays bStays gStays GStays m_len m_any m_zip m_tuple
  have GChanged := ok_changed (P := l.prog) (w := w) (base := base) (k := 0) FChanged FTake bTake gTake FOf bOf gOf FNext bNext gNext GNext m_len m_enumerate m_list m_int m_range m_tuple
  have GRight := ok_right (P := l.prog) (w := w) (k := 0) sys FRight FDue bDue gDue GDue FBroken bBroken gBroken GBroken FComes bComes gComes GComes m_repr
  exact ok_law (k := 0) FLaw FBox bBox gBox GBox FTake bTake gTake FOf bOf gOf FLine bLine gLine GLine FSplit bSplit gSplit GSplit FPlaces bPlaces gPlaces GPlaces FChanged bChanged gChanged GChanged FRight bRight gRight GRight m_len m_min m_max m_range m_tuple m_sum m_all
end K15
open PySem PySem.W PyProof.Rows
set_option maxHeartbeats 0 in
theorem PySem.Challenge.cw_matchgift_k15_clauses_broken_holds : PySem.Challenge.rw_matchgift_k15_clauses_broken.Holds := by
  w_on; o_law; k_head; (case hw => w_witness2)
  k_fill
  refine MG.walkG (l := PySem.Challenge.rw_matchgift_k15_clauses_broken) (n := 63) (k := 9) (x := "_law_script") (sp := K15.spLaw) rfl (by decide) rfl ⟨rfl, by decide, by decide⟩ (by decide +kernel) (fun w h Y => PySem.W.kIn_of Y) ?F (fun _ _ a ns hl _ hS => ⟨a, ns, rfl, hS, hl, fun _ => rfl⟩)
  case F =>
    intro w mg fa h KX G hmg
    refine' K15.all_mk KX G hmg ?aTwosIn ?lTwosIn ?cTwosIn ?kTwosIn ?aOddPart ?lOddPart ?cOddPart ?kOddPart ?aCommon ?lCommon ?cCommon ?kCommon ?aUnit ?lUnit ?cUnit ?kUnit ?aMeasure ?lMeasure ?cMeasure ?kMeasure ?aTwos ?lTwos ?cTwos ?kTwos ?aOddOnes ?lOddOnes ?cOddOnes ?kOddOnes ?aHol ?lHol ?cHol ?kHol ?aHfn ?lHfn ?cHfn ?kHfn ?aAsked ?lAsked ?cAsked ?kAsked ?aBroken ?lBroken ?cBroken ?kBroken ?aComes ?lComes ?cComes ?kComes ?aBox ?lBox ?cBox ?kBox ?aTake ?lTake ?cTake ?kTake ?aOf ?lOf ?cOf ?kOf ?aSplit ?lSplit ?cSplit ?kSplit ?aPlaces ?lPlaces ?cPlaces ?kPlaces ?aLine ?lLine ?cLine ?kLine ?aStays ?lStays ?cStays ?kStays ?aDeed ?lDeed ?cDeed ?kDeed ?aNext ?lNext ?cNext ?kNext ?aDue ?lDue ?cDue ?kDue ?aChanged ?lChanged ?cChanged ?kChanged ?aRight ?lRight ?cRight ?kRight ?aLaw ?lLaw ?cLaw ?kLaw ?z_len ?z_abs ?z_int ?z_range ?z_list ?z_tuple ?z_min ?z_max ?z_sum ?z_any ?z_all ?z_zip ?z_enumerate ?z_repr
    (case aTwosIn => k_is); (case lTwosIn => k_is); (case cTwosIn => k_is); (case kTwosIn => k_is); (case aOddPart => k_is); (case lOddPart => k_is); (case cOddPart => k_is); (case kOddPart => k_is); (case aCommon => k_is); (case lCommon => k_is); (case cCommon => k_is); (case kCommon => k_is); (case aUnit => k_is); (case lUnit => k_is); (case cUnit => k_is); (case kUnit => k_is); (case aMeasure => k_is); (case lMeasure => k_is); (case cMeasure => k_is); (case kMeasure => k_is); (case aTwos => k_is); (case lTwos => k_is); (case cTwos => k_is); (case kTwos => k_is); (case aOddOnes => k_is); (case lOddOnes => k_is); (case cOddOnes => k_is); (case kOddOnes => k_is); (case aHol => k_is); (case lHol => k_is); (case cHol => k_is); (case kHol => k_is); (case aHfn => k_is); (case lHfn => k_is); (case cHfn => k_is); (case kHfn => k_is); (case aAsked => k_is); (case lAsked => k_is); (case cAsked => k_is); (case kAsked => k_is); (case aBroken => k_is); (case lBroken => k_is); (case cBroken => k_is); (case kBroken => k_is); (case aComes => k_is); (case lComes => k_is); (case cComes => k_is); (case kComes => k_is); (case aBox => k_is); (case lBox => k_is); (case cBox => k_is); (case kBox => k_is); (case aTake => k_is); (case lTake => k_is); (case cTake => k_is); (case kTake => k_is); (case aOf => k_is); (case lOf => k_is); (case cOf => k_is); (case kOf => k_is); (case aSplit => k_is); (case lSplit => k_is); (case cSplit => k_is); (case kSplit => k_is); (case aPlaces => k_is); (case lPlaces => k_is); (case cPlaces => k_is); (case kPlaces => k_is); (case aLine => k_is); (case lLine => k_is); (case cLine => k_is); (case kLine => k_is); (case aStays => k_is); (case lStays => k_is); (case cStays => k_is); (case kStays => k_is); (case aDeed => k_is); (case lDeed => k_is); (case cDeed => k_is); (case kDeed => k_is); (case aNext => k_is); (case lNext => k_is); (case cNext => k_is); (case kNext => k_is); (case aDue => k_is); (case lDue => k_is); (case cDue => k_is); (case kDue => k_is); (case aChanged => k_is); (case lChanged => k_is); (case cChanged => k_is); (case kChanged => k_is); (case aRight => k_is); (case lRight => k_is); (case cRight => k_is); (case kRight => k_is); (case aLaw => k_is); (case lLaw => k_is); (case cLaw => k_is); (case kLaw => k_is); (case z_len => k_is); (case z_abs => k_is); (case z_int => k_is); (case z_range => k_is); (case z_list => k_is); (case z_tuple => k_is); (case z_min => k_is); (case z_max => k_is); (case z_sum => k_is); (case z_any => k_is); (case z_all => k_is); (case z_zip => k_is); (case z_enumerate => k_is); (case z_repr => k_is)
